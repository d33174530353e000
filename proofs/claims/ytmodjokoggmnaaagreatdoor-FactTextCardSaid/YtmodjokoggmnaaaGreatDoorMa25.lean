/-
  The reference's parser: Take, Need, Any, Name.
  Conditions: the text has at most 65536 bytes, the tokens are at most 70000.
  The reference's parser: Any, Name.
  Conditions: the text has at most 65536 bytes, the tokens are at most 70000.
  The reference's parser: Name; Integer and Argument of the reference of facts.
  Conditions: the text has at most 65536 bytes, the tokens are at most 70000.
-/
import Derived.Test.YtmodjokoggmnaaaGreatDoorMa24
import Derived.StillTailTactics
namespace Go.Proofs.YtmodjokoggmnaaaGreatDoor
open Go.RowKit Go.Shelf

def takeR (gs : List GTok) (s : RS) (k : Int) (tx : List UInt8) : RS := if peekR gs s k tx then { s with i := s.i + 1 } else s
theorem rPeek_calls {p : Nat} {l : List UInt8} {gs : List GTok} {s : RS} {w : World} (k : Int) (tx : List UInt8) (h : RPS w p l gs s) : Calls Tryz.prog 30 #[.pointer (some ⟨p, 0, none⟩), .int .i64 k, .string ⟨tx.toArray⟩] w fun e w' => e = .returned (.bool (peekR gs s k tx)) ∧ Below w.heap.size w w' :=
  (rPeek_any p l gs s k tx w h).mono fun _ _ ⟨e, m, hm⟩ => ⟨e, by rw [hm]; exact bel_drewN _ _ _⟩
theorem rKind_calls {p : Nat} {l : List UInt8} {gs : List GTok} {s : RS} {w : World} (k : Int) (h : RPS w p l gs s) : Calls Tryz.prog 58 #[.pointer (some ⟨p, 0, none⟩), .int .i64 k] w fun e w' => e = .returned (.bool (kindR gs s k)) ∧ Below w.heap.size w w' :=
  (rKind_any p l gs s k w h).mono fun _ _ ⟨e, m, hm⟩ => ⟨e, by rw [hm]; exact bel_drewN _ _ _⟩
theorem peek_lt {gs : List GTok} {s : RS} {k : Int} {tx : List UInt8} (h : peekR gs s k tx = true) : s.e = 0 ∧ s.i < gs.length := by
  unfold peekR doneR at h
  simp at h
  exact ⟨h.1, h.2.1⟩
theorem kind_lt {gs : List GTok} {s : RS} {k : Int} (h : kindR gs s k = true) : s.e = 0 ∧ ∃ hi : s.i < gs.length, gs[s.i].kind = k := by
  unfold kindR doneR at h
  simp at h
  refine ⟨h.1, h.2.1, ?_⟩
  have h2 := h.2.2
  rw [List.getElem?_eq_getElem h.2.1] at h2
  simpa using h2
set_option maxRecDepth 50000 in
set_option maxHeartbeats 1000000 in
theorem rTake_any (p : Nat) (l : List UInt8) (gs : List GTok) (s : RS) (k : Int) (tx : List UInt8) (w : World) (h : RPS w p l gs s) (hg : gs.length ≤ 70000) :
    Calls Tryz.prog 32 #[.pointer (some ⟨p, 0, none⟩), .int .i64 k, .string ⟨tx.toArray⟩] w (REnd (.bool (peekR gs s k tx)) (takeR gs s k tx) p l gs w) := by
  have HP := Lib.hid (rPeek_calls k tx h)
  have HD : Hid (takeR gs s k tx = if peekR gs s k tx then { s with i := s.i + 1 } else s) := Lib.hid rfl
  have H0 := Lib.hid h
  cases hk : peekR gs s k tx
  · rw [hk] at HP HD
    rw [if_neg (by simp)] at HD
    rw [HD.out]
    clear h HD hk
    go_enter Tryz.func32, Tryz.ntmps32
    go_wp2_with fail
    go_fit HP.out
    rintro e w1 ⟨rfl, hb1⟩
    have HN := Lib.hid (H0.out.next hb1)
    have HG := Lib.hid (gb_bel hb1 : w.grownBy w1 (some p))
    clear hb1
    go_wp2
    go_ret
    exact ⟨rfl, HN.out, HG.out⟩
  · have hi := (peek_lt hk).2
    rw [hk] at HP HD
    rw [if_pos rfl] at HD
    rw [HD.out]
    obtain ⟨A, cap, h6, hrow⟩ := h.six
    have H6 := Lib.hid h6
    have HR := Lib.hid hrow
    have hpw := h6.lt
    generalize hsi : s.i = i at *
    clear h HD hk h6 hrow H0
    go_enter Tryz.func32, Tryz.ntmps32
    go_wp2_with fail
    go_fit HP.out
    rintro e w1 ⟨rfl, hb1⟩
    have H61 := Lib.hid (H6.out.next hb1)
    have hp1 : p < w1.heap.size := H61.out.lt
    obtain ⟨c0, c1, c2, c3, c4, c5, z2, z3, z4, z5⟩ := H61.out.facts
    have hw : IntKind.i64.wrap ((i : Int) + 1) = ((i + 1 : Nat) : Int) := (IntWalk.i64_in _ (by omega)).trans (by omega)
    have HF := Lib.hid ((H61.out.set2 (.int .i64 ((i + 1 : Nat) : Int))).rps (row_set (HR.out.keep fun g hg => hb1.block g (by omega)) 2 (.int .i64 ((i + 1 : Nat) : Int))))
    have HG := Lib.hid (gb_setp (gb_bel hb1 : w.grownBy w1 (some p)) 2 (.int .i64 ((i + 1 : Nat) : Int)))
    clear hb1
    go_wp2
    go_ret
    exact ⟨rfl, HF.out, HG.out⟩
def needR (l : List UInt8) (gs : List GTok) (s : RS) (k : Int) (tx : List UInt8) : RS := if peekR gs s k tx then { s with i := s.i + 1 } else failR l gs s s.i 50
set_option maxRecDepth 50000 in
set_option maxHeartbeats 1000000 in
theorem rNeed_any (p : Nat) (l : List UInt8) (gs : List GTok) (s : RS) (k : Int) (tx : List UInt8) (w : World) (h : RPS w p l gs s) (hl : l.length ≤ 65536) (hg : gs.length ≤ 70000) :
    Calls Tryz.prog 29 #[.pointer (some ⟨p, 0, none⟩), .int .i64 k, .string ⟨tx.toArray⟩] w (REnd (.tuple #[]) (needR l gs s k tx) p l gs w) := by
  have HT := Lib.hid (rTake_any p l gs s k tx w h hg)
  have HD : Hid (needR l gs s k tx = if peekR gs s k tx then { s with i := s.i + 1 } else failR l gs s s.i 50) := Lib.hid rfl
  have HTD : Hid (takeR gs s k tx = if peekR gs s k tx then { s with i := s.i + 1 } else s) := Lib.hid rfl
  have hnot : ∀ (x : Bool) (w : World), (Op.unary .not (.bool x)).run Tryz.prog w = .ok (.bool (!x)) w := fun _ _ => rfl
  cases hk : peekR gs s k tx
  · rw [hk] at HT HD HTD
    rw [if_neg (by simp)] at HD HTD
    rw [HTD.out] at HT
    rw [HD.out]
    have HF := Lib.hid fun W (hW : RPS W p l gs s) => rFail_any p l gs s s.i 50 W hW hl (fun _ => by omega)
    clear h HD HTD hk
    go_enter Tryz.func29, Tryz.ntmps29
    go_wp2_with fail
    go_fit HT.out
    rintro e w1 ⟨rfl, hps, hg1⟩
    have HP1 := Lib.hid hps
    have HG1 := Lib.hid hg1
    obtain ⟨A, cap, hp, c0, c1, c2, c3, c4, c5, hr, hf, hh⟩ := hps.open
    clear hps hg1 hr hf hh
    go_wp2_with fail
    go_fit (HF.out _ HP1.out)
    rintro e w2 ⟨rfl, hps, hg2⟩
    have HP2 := Lib.hid hps
    have HG2 := Lib.hid (gb_trans HG1.out hg2)
    clear hps hg2 c0 c1 c2 c3 c4 c5
    go_wp2
    exact bodyPost_ret (v := .tuple #[]) (by simp [results, Tryz.results29, go_sem]) rfl ⟨rfl, HP2.out, HG2.out⟩
  · rw [hk] at HT HD HTD
    rw [if_pos rfl] at HD HTD
    rw [HTD.out] at HT
    rw [HD.out]
    clear h HD HTD hk
    go_enter Tryz.func29, Tryz.ntmps29
    go_wp2_with fail
    go_fit HT.out
    rintro e w1 ⟨rfl, hps, hg1⟩
    have HP1 := Lib.hid hps
    have HG1 := Lib.hid hg1
    clear hps hg1
    go_wp2
    exact bodyPost_ret (v := .tuple #[]) (by simp [results, Tryz.results29, go_sem]) rfl ⟨rfl, HP1.out, HG1.out⟩
/-- Any: the token, and where the parser then stands. -/
def anyT (gs : List GTok) (s : RS) (k : Int) : GTok := if kindR gs s k then (gs[s.i]?).getD ⟨0, [], 0, 0, 0⟩ else ⟨0, [], 0, 0, 0⟩
def anyS (l : List UInt8) (gs : List GTok) (s : RS) (k : Int) : RS := if kindR gs s k then { s with i := s.i + 1 } else failR l gs s s.i 50
def TokV (W : World) (N : Nat) : Prop := W.heap[N]? = some (.cells #[.int .i64 0, .string ⟨#[]⟩, .int .u64 0, .int .i64 0, .int .i64 0] 52 (0, 0))
theorem TokV.new (w : World) : TokV (w.alloc (.cells #[.int .i64 0, .string ⟨#[]⟩, .int .u64 0, .int .i64 0, .int .i64 0] 52)) w.heap.size := heap_alloc_new w _
theorem TokV.lt {W : World} {N : Nat} (h : TokV W N) : N < W.heap.size := by
  unfold TokV at h
  rcases Nat.lt_or_ge N W.heap.size with h1 | h1
  · exact h1
  · rw [Array.getElem?_eq_none h1] at h; cases h
theorem TokV.next {W W' : World} {N : Nat} (h : TokV W N) (hb : Below W.heap.size W W') : TokV W' N := (hb.block N h.lt).trans h
theorem TokV.gb {W W' : World} {N p : Nat} (h : TokV W N) (hb : W.grownBy W' (some p)) (hp : N ≠ p) : TokV W' N := (hb.block N h.lt (by intro e; cases e; exact hp rfl)).trans h
theorem TokV.facts {W : World} {N : Nat} (h : TokV W N) : W.cell? ⟨N, 0, none⟩ = some (.int .i64 0) ∧ W.cell? ⟨N, 1, none⟩ = some (.string ⟨#[]⟩) ∧ W.cell? ⟨N, 2, none⟩ = some (.int .u64 0) ∧ W.cell? ⟨N, 3, none⟩ = some (.int .i64 0) ∧ W.cell? ⟨N, 4, none⟩ = some (.int .i64 0) ∧ (∀ j, W.frozen? ⟨N, j, none⟩ = false) := by
  unfold TokV at h
  exact ⟨by rw [Lib.cell_of_heap h]; rfl, by rw [Lib.cell_of_heap h]; rfl, by rw [Lib.cell_of_heap h]; rfl, by rw [Lib.cell_of_heap h]; rfl, by rw [Lib.cell_of_heap h]; rfl, fun j => Lib.frozen_of_heap h j⟩
theorem RPS.other {w : World} {p : Nat} {l : List UInt8} {gs : List GTok} {s : RS} (h : RPS w p l gs s) (a : Addr) (v : Value) (ha : p < a.block) : RPS (w.setCell a v) p l gs s := by
  obtain ⟨A, cap, hh, h3⟩ := h
  exact ⟨A, cap, (Below.heap_setCell _ _ _ p (by omega)).trans hh, h3.keep fun g hg => Below.heap_setCell _ _ _ g (by omega)⟩
end Go.Proofs.YtmodjokoggmnaaaGreatDoor


namespace Go.Proofs.YtmodjokoggmnaaaGreatDoor
open Go.RowKit Go.Shelf

def set5 (w : World) (N : Nat) (a b c d e : Value) : World := ((((w.setCell ⟨N, 0, none⟩ a).setCell ⟨N, 1, none⟩ b).setCell ⟨N, 2, none⟩ c).setCell ⟨N, 3, none⟩ d).setCell ⟨N, 4, none⟩ e
theorem RPS.set5 {w : World} {p N : Nat} {l : List UInt8} {gs : List GTok} {s : RS} (h : RPS w p l gs s) (hN : p < N) (a b c d e : Value) : RPS (set5 w N a b c d e) p l gs s := ((((h.other _ _ hN).other _ _ hN).other _ _ hN).other _ _ hN).other _ _ hN
theorem gb_set5 {q : Option Nat} {w w1 : World} (h : w.grownBy w1 q) (N : Nat) (hN : w.heap.size ≤ N) (a b c d e : Value) : w.grownBy (set5 w1 N a b c d e) q := gb_new (gb_new (gb_new (gb_new (gb_new h _ _ hN) _ _ hN) _ _ hN) _ _ hN) _ _ hN
theorem failR_e (l : List UInt8) (gs : List GTok) (s : RS) (j er : Int) (h : er ≠ 0) : (failR l gs s j er).e ≠ 0 := by
  unfold failR
  by_cases he : s.e = 0
  · rw [if_pos he]
    split
    · exact h
    · exact h
  · rw [if_neg he]; exact he
theorem anyS_i (l : List UInt8) (gs : List GTok) (s : RS) (k : Int) (h : (anyS l gs s k).e = 0) : kindR gs s k = true ∧ (anyS l gs s k).i = s.i + 1 := by
  unfold anyS at *
  cases hk : kindR gs s k
  · rw [hk, if_neg (by simp)] at h
    exact absurd h (failR_e l gs s s.i 50 (by omega))
  · rw [if_pos rfl]
    exact ⟨rfl, rfl⟩
set_option maxRecDepth 50000 in
set_option maxHeartbeats 1000000 in
theorem rAny_any (p : Nat) (l : List UInt8) (gs : List GTok) (s : RS) (k : Int) (w : World) (h : RPS w p l gs s) (hl : l.length ≤ 65536) (hg : gs.length ≤ 70000) :
    Calls Tryz.prog 56 #[.pointer (some ⟨p, 0, none⟩), .int .i64 k] w (REnd (anyT gs s k).val (anyS l gs s k) p l gs w) := by
  have HRV := Lib.hid (TokV.new w)
  have h1 := h.next (Below.alloc (Below.refl w.heap.size w) (Nat.le_refl _) (.cells #[.int .i64 0, .string ⟨#[]⟩, .int .u64 0, .int .i64 0, .int .i64 0] 52))
  have HK := Lib.hid (rKind_calls k h1)
  have H1 := Lib.hid h1
  have hpw := h.lt
  have HT : Hid (anyT gs s k = if kindR gs s k then (gs[s.i]?).getD ⟨0, [], 0, 0, 0⟩ else ⟨0, [], 0, 0, 0⟩) := Lib.hid rfl
  have HS : Hid (anyS l gs s k = if kindR gs s k then { s with i := s.i + 1 } else failR l gs s s.i 50) := Lib.hid rfl
  have hnot : ∀ (x : Bool) (w : World), (Op.unary .not (.bool x)).run Tryz.prog w = .ok (.bool (!x)) w := fun _ _ => rfl
  have HGL := Lib.hid (gb_lit (gb_refl (p := some p) w) (.cells #[.int .i64 0, .string ⟨#[]⟩, .int .u64 0, .int .i64 0, .int .i64 0] 52))
  have hsa : (w.alloc (.cells #[.int .i64 0, .string ⟨#[]⟩, .int .u64 0, .int .i64 0, .int .i64 0] 52)).heap.size = w.heap.size + 1 := by simp
  clear h h1
  cases hk : kindR gs s k
  · rw [hk] at HK HT HS
    rw [if_neg (by simp)] at HT HS
    rw [HT.out, HS.out]
    have HF := Lib.hid fun W (hW : RPS W p l gs s) => rFail_any p l gs s s.i 50 W hW hl (fun _ => by omega)
    clear HT HS hk
    go_enter Tryz.func56, Tryz.ntmps56
    go_wp2_with fail
    go_fit HK.out
    rintro e w1 ⟨rfl, hb1⟩
    have HP1 := Lib.hid (H1.out.next hb1)
    have HG1 := Lib.hid (gb_trans HGL.out (gb_bel hb1))
    have HR1 := Lib.hid (HRV.out.next hb1)
    obtain ⟨A, cap, hp, c0, c1, c2, c3, c4, c5, hr, hf, hh⟩ := HP1.out.open
    clear hb1 hr hf hh HK
    go_wp2_with fail
    go_fit (HF.out _ HP1.out)
    rintro e w2 ⟨rfl, hps, hg2⟩
    have HP2 := Lib.hid hps
    have HG2 := Lib.hid (gb_trans HG1.out hg2)
    obtain ⟨q0, q1, q2, q3, q4, z⟩ := (HR1.out.gb hg2 (by omega)).facts
    have hs2 : w.heap.size < w2.heap.size := (HR1.out.gb hg2 (by omega)).lt
    have z0 := z 0
    have z1 := z 1
    have z2 := z 2
    have z3 := z 3
    have z4 := z 4
    clear hps hg2 c0 c1 c2 c3 c4 c5 z HF
    go_wp2
    refine bodyPost_ret (v := .agg #[.int .i64 0, .string ⟨#[]⟩, .int .u64 0, .int .i64 0, .int .i64 0]) (by simp [results, Tryz.results56, go_sem, q0, q1, q2, q3, q4]) rfl ⟨rfl, ?_, ?_⟩
    · exact HP2.out.set5 hpw _ _ _ _ _
    · exact gb_set5 HG2.out _ (Nat.le_refl _) _ _ _ _ _
  · obtain ⟨_, hi, hkk⟩ := kind_lt hk
    rw [hk] at HK HT HS
    rw [if_pos rfl] at HT HS
    rw [List.getElem?_eq_getElem hi] at HT
    rw [HT.out, HS.out]
    obtain ⟨A, cap, h6, hrow⟩ := H1.out.six
    have H6 := Lib.hid h6
    have HR := Lib.hid hrow
    obtain ⟨b, off, rfl, hb, x0, x1, x2, x3, x4⟩ := hrow.tok5 hi
    simp only [Option.getD_some]
    have hit := hi
    generalize gs[s.i] = t at *
    generalize hsi : s.i = i at *
    have HX : Hid (∀ W : World, (w.alloc (.cells #[.int .i64 0, .string ⟨#[]⟩, .int .u64 0, .int .i64 0, .int .i64 0] 52)).heap[b]? = W.heap[b]? → W.cell? ⟨b, off + i * 5, none⟩ = some (.int .i64 t.kind) ∧ W.cell? ⟨b, off + i * 5 + 1, none⟩ = some (.string ⟨t.text.toArray⟩) ∧ W.cell? ⟨b, off + i * 5 + 2, none⟩ = some (.int .u64 t.value) ∧ W.cell? ⟨b, off + i * 5 + 3, none⟩ = some (.int .i64 t.line) ∧ W.cell? ⟨b, off + i * 5 + 4, none⟩ = some (.int .i64 t.col)) := Lib.hid fun W hb => by
      have key : ∀ j, W.cell? ⟨b, j, none⟩ = (w.alloc (.cells #[.int .i64 0, .string ⟨#[]⟩, .int .u64 0, .int .i64 0, .int .i64 0] 52)).cell? ⟨b, j, none⟩ := fun j => World.cell?_of_block (a := ⟨b, j, none⟩) hb.symm
      exact ⟨(key _).trans x0, (key _).trans x1, (key _).trans x2, (key _).trans x3, (key _).trans x4⟩
    obtain ⟨tk, tt, tv, tl, tc⟩ := t
    simp only [GTok.val] at *
    clear HT HS hk hkk h6 hrow H1 x0 x1 x2 x3 x4
    go_enter Tryz.func56, Tryz.ntmps56
    go_wp2_with fail
    go_fit HK.out
    rintro e w1 ⟨rfl, hb1⟩
    have H61 := Lib.hid (H6.out.next hb1)
    have HR1 := Lib.hid (HRV.out.next hb1)
    have HG1 := Lib.hid (gb_trans HGL.out (gb_bel hb1))
    have hp1 : p < w1.heap.size := H61.out.lt
    have hbk : (w.alloc (.cells #[.int .i64 0, .string ⟨#[]⟩, .int .u64 0, .int .i64 0, .int .i64 0] 52)).heap[b]? = w1.heap[b]? := (hb1.block b (by omega)).symm
    obtain ⟨c0, c1, c2, c3, c4, c5, z2, z3, z4, z5⟩ := H61.out.facts
    have hw : IntKind.i64.wrap ((i : Int) + 1) = ((i + 1 : Nat) : Int) := (IntWalk.i64_in _ (by omega)).trans (by omega)
    have HRW := Lib.hid (HR.out.keep (w' := w1) fun g hg => hb1.block g (by omega))
    clear hb1 HK
    go_upto_region 5 with fail
    have H62 := Lib.hid (H61.out.set2 (.int .i64 ((i : Int) + 1)))
    have HRW2 := Lib.hid (row_set HRW.out 2 (.int .i64 ((i : Int) + 1)))
    have HG2 := Lib.hid (gb_setp HG1.out 2 (.int .i64 ((i : Int) + 1)))
    have HT2 : Hid (TokV (w1.setCell ⟨p, 2, none⟩ (.int .i64 ((i : Int) + 1))) w.heap.size) := Lib.hid ((Below.heap_setCell _ _ _ _ (by show w.heap.size ≠ p; omega)).trans HR1.out)
    have hx2 : (w.alloc (.cells #[.int .i64 0, .string ⟨#[]⟩, .int .u64 0, .int .i64 0, .int .i64 0] 52)).heap[b]? = (w1.setCell ⟨p, 2, none⟩ (.int .i64 ((i : Int) + 1))).heap[b]? := hbk.trans (Below.heap_setCell _ _ _ _ (by show b ≠ p; omega)).symm
    obtain ⟨x0, x1, x2, x3, x4⟩ := HX.out _ hx2
    have hw2 : IntKind.i64.wrap ((i : Int) + 1 - 1) = (i : Int) := (IntWalk.i64_in _ (by omega)).trans (by omega)
    have hw3 : (i : Int) + 1 - 1 = i := by omega
    have HF := Lib.hid (show RPS _ p l gs ⟨i + 1, s.x, s.y, s.e⟩ from H62.out.rps HRW2.out)
    generalize w1.setCell ⟨p, 2, none⟩ (.int .i64 ((i : Int) + 1)) = w2 at *
    have hp2 : p < w2.heap.size := H62.out.lt
    have hbw : b < w2.heap.size := by omega
    have hs2 : w.heap.size < w2.heap.size := HT2.out.lt
    have hne : b ≠ w.heap.size := by omega
    have hne2 : p ≠ w.heap.size := by omega
    clear c0 c1 c2 c3 c4 c5 z2 z3 z4 z5 hw hbk hx2 hp1
    obtain ⟨c0, c1, c2, c3, c4, c5, _, _, _, _⟩ := H62.out.facts
    obtain ⟨q0, q1, q2, q3, q4, z⟩ := HT2.out.facts
    have z0 := z 0
    have z1 := z 1
    have z2 := z 2
    have z3 := z 3
    have z4 := z 4
    clear z
    have HPF := Lib.hid (HF.out.set5 hpw (.int .i64 tk) (.string ⟨tt.toArray⟩) (.int .u64 tv) (.int .i64 tl) (.int .i64 tc))
    have HGF := Lib.hid (gb_set5 HG2.out w.heap.size (Nat.le_refl _) (.int .i64 tk) (.string ⟨tt.toArray⟩) (.int .u64 tv) (.int .i64 tl) (.int .i64 tc))
    go_region
    go_wp2
    refine bodyPost_ret (v := .agg #[.int .i64 tk, .string ⟨tt.toArray⟩, .int .u64 tv, .int .i64 tl, .int .i64 tc]) (by simp [results, Tryz.results56, go_sem, q0, q1, q2, q3, q4]) rfl ⟨rfl, ?_, ?_⟩
    · exact HPF.out.next ((Below.refl _ _).drew)
    · exact gb_drew HGF.out
end Go.Proofs.YtmodjokoggmnaaaGreatDoor


namespace Go.Proofs.YtmodjokoggmnaaaGreatDoor
open Go.RowKit Go.Shelf

def nameR (l : List UInt8) (gs : List GTok) (s : RS) (k : Int) : RS := if 24 < (anyT gs s k).text.length then failR l gs (anyS l gs s k) ((anyS l gs s k).i - 1) 63 else anyS l gs s k
theorem anyT_no {gs : List GTok} {s : RS} {k : Int} (h : kindR gs s k = false) : anyT gs s k = ⟨0, [], 0, 0, 0⟩ := by unfold anyT; rw [h]; rfl
theorem any_pos {l : List UInt8} {gs : List GTok} {s : RS} {k : Int} (h : kindR gs s k = true) : (anyS l gs s k).i = s.i + 1 := by unfold anyS; rw [h]; rfl
theorem any_le (l : List UInt8) (gs : List GTok) (s : RS) (k : Int) (hs : s.i ≤ gs.length) : (anyS l gs s k).i ≤ gs.length := by
  unfold anyS
  cases h : kindR gs s k
  · rw [if_neg (by simp)]
    unfold failR
    split
    · split <;> exact hs
    · exact hs
  · rw [if_pos rfl]
    have := (kind_lt h).2.1
    show s.i + 1 ≤ _
    omega
set_option maxRecDepth 50000 in
set_option maxHeartbeats 1000000 in
theorem rName_any (p : Nat) (l : List UInt8) (gs : List GTok) (s : RS) (k : Int) (w : World) (h : RPS w p l gs s) (hl : l.length ≤ 65536) (hg : gs.length ≤ 70000) (hs : s.i ≤ gs.length) :
    Calls Tryz.prog 27 #[.pointer (some ⟨p, 0, none⟩), .int .i64 k] w (REnd (.string ⟨(anyT gs s k).text.toArray⟩) (nameR l gs s k) p l gs w) := by
  have HA := Lib.hid (rAny_any p l gs s k w h hl hg)
  have HD : Hid (nameR l gs s k = if 24 < (anyT gs s k).text.length then failR l gs (anyS l gs s k) ((anyS l gs s k).i - 1) 63 else anyS l gs s k) := Lib.hid rfl
  have hpw := h.lt
  have hpos : 24 < (anyT gs s k).text.length → 1 ≤ (anyS l gs s k).i := fun h24 => by
    cases hk : kindR gs s k
    · rw [anyT_no hk] at h24; simp at h24
    · rw [any_pos hk]; omega
  have hle := any_le l gs s k hs
  have HF := Lib.hid fun W (hW : RPS W p l gs (anyS l gs s k)) (h1 : 1 ≤ (anyS l gs s k).i) => rFail_any p l gs (anyS l gs s k) ((anyS l gs s k).i - 1) 63 W hW hl (fun _ => by omega)
  generalize anyS l gs s k = s1 at *
  generalize anyT gs s k = t at *
  obtain ⟨tk, tt, tv, tl, tc⟩ := t
  simp only [GTok.val] at *
  have hsz : (⟨tt.toArray⟩ : ByteArray).size = tt.length := ba_size tt
  clear h
  by_cases h24 : 24 < tt.length
  · have f1 : decide ((24 : Int) < (tt.length : Int)) = true := by simp; omega
    have g1 : (24 : Int) < (tt.length : Int) := by omega
    rw [if_pos h24] at HD
    rw [HD.out]
    have h1 := hpos h24
    have hw1 : IntKind.i64.wrap ((s1.i : Int) - 1) = (s1.i : Int) - 1 := IntWalk.i64_in _ (by omega)
    clear HD hpos h24
    go_enter Tryz.func27, Tryz.ntmps27
    go_wp2_with fail
    go_fit HA.out
    rintro e w1 ⟨rfl, hps, hg1⟩
    have HP1 := Lib.hid (hps.next (Below.alloc (Below.refl w1.heap.size w1) (Nat.le_refl _) (.cells #[.int .i64 tk, .string ⟨tt.toArray⟩, .int .u64 tv, .int .i64 tl, .int .i64 tc] 52)))
    have HG1 := Lib.hid (gb_lit hg1 (.cells #[.int .i64 tk, .string ⟨tt.toArray⟩, .int .u64 tv, .int .i64 tl, .int .i64 tc] 52))
    obtain ⟨A, cap, hp, c0, c1, c2, c3, c4, c5, hr, hf, hh⟩ := hps.open
    have hp1 : p < w1.heap.size := hp
    clear hps hg1 hr hf hh HA
    go_wp2_with fail
    go_fit (HF.out _ HP1.out h1)
    rintro e w2 ⟨rfl, hps, hg2⟩
    have HP2 := Lib.hid hps
    have HG2 := Lib.hid (gb_trans HG1.out hg2)
    have hk2 : w2.heap[w1.heap.size]? = some (.cells #[.int .i64 tk, .string ⟨tt.toArray⟩, .int .u64 tv, .int .i64 tl, .int .i64 tc] 52 (0, 0)) := (hg2.block _ (by simp) (by intro e; cases e; omega)).trans (heap_alloc_new w1 _)
    have y1 : w2.cell? ⟨w1.heap.size, 1, none⟩ = some (.string ⟨tt.toArray⟩) := by rw [Lib.cell_of_heap hk2]; rfl
    clear hps hg2 c0 c1 c2 c3 c4 c5 HF hk2
    go_wp2
    go_ret
    exact ⟨rfl, HP2.out, HG2.out⟩
  · have f1 : decide ((24 : Int) < (tt.length : Int)) = false := by simp; omega
    have g1 : ¬ (24 : Int) < (tt.length : Int) := by omega
    rw [if_neg h24] at HD
    rw [HD.out]
    clear HD hpos h24
    go_enter Tryz.func27, Tryz.ntmps27
    go_wp2_with fail
    go_fit HA.out
    rintro e w1 ⟨rfl, hps, hg1⟩
    have HP1 := Lib.hid (hps.next (Below.alloc (Below.refl w1.heap.size w1) (Nat.le_refl _) (.cells #[.int .i64 tk, .string ⟨tt.toArray⟩, .int .u64 tv, .int .i64 tl, .int .i64 tc] 52)))
    have HG1 := Lib.hid (gb_lit hg1 (.cells #[.int .i64 tk, .string ⟨tt.toArray⟩, .int .u64 tv, .int .i64 tl, .int .i64 tc] 52))
    clear hps hg1 HA HF
    go_wp2
    go_ret
    exact ⟨rfl, HP1.out, HG1.out⟩
def intR (l : List UInt8) (gs : List GTok) (s : RS) : Int × RS :=
  if peekR gs s 4 [45] = true ∧ (anyT gs (takeR gs s 4 [45]) 2).value ≤ 9223372036854775808 then (wrap64 (-(wrap64 (anyT gs (takeR gs s 4 [45]) 2).value)), anyS l gs (takeR gs s 4 [45]) 2)
  else if peekR gs s 4 [45] = false ∧ (anyT gs (takeR gs s 4 [45]) 2).value < 9223372036854775808 then (wrap64 (anyT gs (takeR gs s 4 [45]) 2).value, anyS l gs (takeR gs s 4 [45]) 2)
  else (0, failR l gs (anyS l gs (takeR gs s 4 [45]) 2) ((anyS l gs (takeR gs s 4 [45]) 2).i - 1) 6)
theorem take_le (gs : List GTok) (s : RS) (k : Int) (tx : List UInt8) (hs : s.i ≤ gs.length) : (takeR gs s k tx).i ≤ gs.length := by
  unfold takeR
  cases h : peekR gs s k tx
  · rw [if_neg (by simp)]; exact hs
  · rw [if_pos rfl]
    have := (peek_lt h).2
    show s.i + 1 ≤ _
    omega
set_option maxRecDepth 50000 in
set_option maxHeartbeats 1000000 in
theorem rInteger_any (p : Nat) (l : List UInt8) (gs : List GTok) (s : RS) (w : World) (h : RPS w p l gs s) (hl : l.length ≤ 65536) (hg : gs.length ≤ 70000) (hs : s.i ≤ gs.length) :
    Calls Tryz.prog 59 #[.pointer (some ⟨p, 0, none⟩)] w (REnd (.int .i64 (intR l gs s).1) (intR l gs s).2 p l gs w) := by
  have HT := Lib.hid (rTake_any p l gs s 4 [45] w h hg)
  have HA := Lib.hid fun W (hW : RPS W p l gs (takeR gs s 4 [45])) => rAny_any p l gs (takeR gs s 4 [45]) 2 W hW hl hg
  have hle := any_le l gs (takeR gs s 4 [45]) 2 (take_le gs s 4 [45] hs)
  have hpos : (anyT gs (takeR gs s 4 [45]) 2).value ≠ 0 → 1 ≤ (anyS l gs (takeR gs s 4 [45]) 2).i := fun h0 => by
    cases hk : kindR gs (takeR gs s 4 [45]) 2
    · rw [anyT_no hk] at h0; exact absurd rfl h0
    · rw [any_pos hk]; omega
  have HF := Lib.hid fun W (hW : RPS W p l gs (anyS l gs (takeR gs s 4 [45]) 2)) (h1 : 1 ≤ (anyS l gs (takeR gs s 4 [45]) 2).i) => rFail_any p l gs (anyS l gs (takeR gs s 4 [45]) 2) ((anyS l gs (takeR gs s 4 [45]) 2).i - 1) 6 W hW hl (fun _ => by omega)
  have hnot : ∀ (x : Bool) (w : World), (Op.unary .not (.bool x)).run Tryz.prog w = .ok (.bool (!x)) w := fun _ _ => rfl
  unfold intR
  generalize peekR gs s 4 [45] = m at *
  generalize takeR gs s 4 [45] = s1 at *
  generalize anyS l gs s1 2 = s2 at *
  generalize anyT gs s1 2 = t at *
  obtain ⟨tk, tt, tv, tl, tc⟩ := t
  have hfl : ∀ W : World, (Instr.field 52 (.agg #[.int .i64 tk, .string ⟨tt.toArray⟩, .int .u64 tv, .int .i64 tl, .int .i64 tc]) 2).run Tryz.prog W = .ok (.int .u64 tv) W := fun W => by kernel_rfl
  simp only [GTok.val] at *
  clear h
  cases m
  · by_cases hv : tv < 9223372036854775808
    · have f1 : decide (tv < 9223372036854775808) = true := by simp [hv]
      rw [if_neg (by simp), if_pos ⟨rfl, hv⟩]
      clear hpos HF
      go_enter Tryz.func59, Tryz.ntmps59
      go_wp2_with fail
      go_fit HT.out
      rintro e w1 ⟨rfl, hps, hg1⟩
      have HP1 := Lib.hid hps
      have HG1 := Lib.hid hg1
      clear hps hg1
      go_wp2_with fail
      go_fit (HA.out _ HP1.out)
      rintro e w2 ⟨rfl, hps, hg2⟩
      have HP2 := Lib.hid hps
      have HG2 := Lib.hid (gb_trans HG1.out hg2)
      clear hps hg2
      go_wp2
      go_ret
      exact ⟨rfl, HP2.out, HG2.out⟩
    · have f1 : decide (tv < 9223372036854775808) = false := by simp; omega
      rw [if_neg (by simp), if_neg (fun h => hv h.2)]
      have h1 := hpos (by omega)
      have hw1 : IntKind.i64.wrap ((s2.i : Int) - 1) = (s2.i : Int) - 1 := IntWalk.i64_in _ (by omega)
      clear hpos
      go_enter Tryz.func59, Tryz.ntmps59
      go_wp2_with fail
      go_fit HT.out
      rintro e w1 ⟨rfl, hps, hg1⟩
      have HP1 := Lib.hid hps
      have HG1 := Lib.hid hg1
      clear hps hg1
      go_wp2_with fail
      go_fit (HA.out _ HP1.out)
      rintro e w2 ⟨rfl, hps, hg2⟩
      have HP2 := Lib.hid hps
      have HG2 := Lib.hid (gb_trans HG1.out hg2)
      obtain ⟨A, cap, hp, c0, c1, c2, c3, c4, c5, hr, hf, hh⟩ := hps.open
      clear hps hg2 hr hf hh
      go_wp2_with fail
      go_fit (HF.out _ HP2.out h1)
      rintro e w3 ⟨rfl, hps, hg3⟩
      have HP3 := Lib.hid hps
      have HG3 := Lib.hid (gb_trans HG2.out hg3)
      clear hps hg3 c0 c1 c2 c3 c4 c5
      go_wp2
      go_ret
      exact ⟨rfl, HP3.out, HG3.out⟩
  · by_cases hv : tv ≤ 9223372036854775808
    · have f1 : decide (tv ≤ 9223372036854775808) = true := by simp [hv]
      rw [if_pos ⟨rfl, hv⟩]
      clear hpos HF
      go_enter Tryz.func59, Tryz.ntmps59
      go_wp2_with fail
      go_fit HT.out
      rintro e w1 ⟨rfl, hps, hg1⟩
      have HP1 := Lib.hid hps
      have HG1 := Lib.hid hg1
      clear hps hg1
      go_wp2_with fail
      go_fit (HA.out _ HP1.out)
      rintro e w2 ⟨rfl, hps, hg2⟩
      have HP2 := Lib.hid hps
      have HG2 := Lib.hid (gb_trans HG1.out hg2)
      clear hps hg2
      go_wp2
      go_ret
      exact ⟨rfl, HP2.out, HG2.out⟩
    · have f1 : decide (tv ≤ 9223372036854775808) = false := by simp; omega
      rw [if_neg (fun h => hv h.2), if_neg (by simp)]
      have h1 := hpos (by omega)
      have hw1 : IntKind.i64.wrap ((s2.i : Int) - 1) = (s2.i : Int) - 1 := IntWalk.i64_in _ (by omega)
      clear hpos
      go_enter Tryz.func59, Tryz.ntmps59
      go_wp2_with fail
      go_fit HT.out
      rintro e w1 ⟨rfl, hps, hg1⟩
      have HP1 := Lib.hid hps
      have HG1 := Lib.hid hg1
      clear hps hg1
      go_wp2_with fail
      go_fit (HA.out _ HP1.out)
      rintro e w2 ⟨rfl, hps, hg2⟩
      have HP2 := Lib.hid hps
      have HG2 := Lib.hid (gb_trans HG1.out hg2)
      obtain ⟨A, cap, hp, c0, c1, c2, c3, c4, c5, hr, hf, hh⟩ := hps.open
      clear hps hg2 hr hf hh
      go_wp2_with fail
      go_fit (HF.out _ HP2.out h1)
      rintro e w3 ⟨rfl, hps, hg3⟩
      have HP3 := Lib.hid hps
      have HG3 := Lib.hid (gb_trans HG2.out hg3)
      clear hps hg3 c0 c1 c2 c3 c4 c5
      go_wp2
      go_ret
      exact ⟨rfl, HP3.out, HG3.out⟩
end Go.Proofs.YtmodjokoggmnaaaGreatDoor
