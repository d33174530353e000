/-
  The reference's Same, and the model's == at instructions.
  Conditions: none.
  The law IsaRoundTrip returns true, whatever the numbers and the bytes.
  Conditions: the listed variables lie as the program's start lays them.
  Tokens renamed one by one, as lists; two lists of one's own, one of them grown. Plain, but for the last.
  Conditions: as each theorem says.
-/
import Derived.Test.YtahhmgoffdggpaaGreatDoorMb30
import Derived.Test.YtahhmgoffdggpaaGreatDoorMb31
import Derived.Test.YtahhmgoffdggpaaGreatDoorMb25
import Derived.Test.YtahhmgoffdggpaaGreatDoorMb28
import Derived.Laws.StructEq
import Derived.Test.YtahhmgoffdggpaaGreatDoorMb10
namespace Go.Proofs.YtahhmgoffdggpaaGreatDoor

open Go.RowKit Go.Shelf

/-- Two instructions are equal. -/
def eqI (x y : GIns) : Bool := x.op == y.op && (x.a == y.a && (x.b == y.b && (x.c == y.c && x.imm == y.imm)))
theorem eqI_iff (x y : GIns) : eqI x y = true ↔ x = y := by
  cases x; cases y
  simp [eqI]
theorem ins_eql (x y : GIns) (w : World) : (Op.equalIn 10000 40 x.val y.val).run Tryz.prog w = .ok (eqI x y) w := by
  have u3 := Tryz.underlying3
  have u2 := Tryz.underlying21
  have hS : Tryz.prog.underlying 40 = some (.struct (Tryz.prog.fieldsOf 40)) := by kernel_rfl
  have hp : Tryz.prog.stoodInHeld 40 = false := by kernel_rfl
  have a3 := Tryz.isAgg3
  have z3 := Tryz.sizeOf3
  have a2 := Tryz.isAgg21
  have z2 := Tryz.sizeOf21
  unfold eqI
  simp only [GIns.val]
  rw [show (10000 : Nat) = 9999 + 1 from rfl, run_equalIn_struct w 9999 40 _ _ hS hp]
  simp only [Program.fieldsOf, Tryz.underlying40]
  go_simp
  by_cases h0 : x.op = y.op
  rotate_left
  · simp [h0]
  by_cases h1 : x.a = y.a
  rotate_left
  · simp [h0, h1]
  by_cases h2 : x.b = y.b
  rotate_left
  · simp [h0, h1, h2]
  by_cases h3 : x.c = y.c
  rotate_left
  · simp [h0, h1, h2, h3]
  by_cases h4 : x.imm = y.imm <;> simp [h0, h1, h2, h3, h4]
set_option maxRecDepth 20000 in
set_option maxHeartbeats 1000000 in
theorem rSmi_any (xs ys : List GIns) (A B : Option Addr) (c d : Nat) (w : World) (h1 : GRow GIns.cells 5 w w.heap.size A xs) (h2 : GRow GIns.cells 5 w w.heap.size B ys) (hl : xs.length ≤ 17179869184) (hl2 : ys.length ≤ 17179869184) :
    Calls Tryz.prog 10 #[.slice A xs.length c, .slice B ys.length d] w fun e w' => e = .returned (.bool (decide (xs = ys))) ∧ Below w.heap.size w w' := by
  have H1 := Lib.hid h1
  have H2 := Lib.hid h2
  have HD : Hid (decide (xs = ys) = decide (xs = ys)) := Lib.hid rfl
  generalize hq : decide (xs = ys) = q at *
  clear h1 h2 HD
  by_cases hn : xs.length = ys.length
  case neg =>
    have HQ : Hid (q = false) := Lib.hid (by rw [← hq, decide_eq_false_iff_not]; exact fun e => hn (by rw [e]))
    have f1 : ((xs.length : Int) != (ys.length : Int)) = true := by simp; omega
    clear hq hn
    generalize xs.length = n at *
    generalize ys.length = m at *
    go_enter Tryz.func10, Tryz.ntmps10
    go_wp2
    go_ret
    exact ⟨congrArg (fun b => Ending.returned (Value.bool b)) HQ.out.symm, Below.refl _ _⟩
  have HN := Lib.hid hn
  have f1 : ((xs.length : Int) != (ys.length : Int)) = false := by simp; omega
  have HQ := Lib.hid hq
  clear hq hn
  go_enter Tryz.func10, Tryz.ntmps10
  go_wp2
  clear f1
  go_loopw [5] (fun vi wr => ∃ k : Nat, vi = .int .i64 k ∧ k ≤ xs.length ∧ Hid (xs.take k = ys.take k) ∧ Hid (Below w.heap.size w wr)) (fun vi _ => xs.length - (intOf vi).toNat)
  case atStart => exact ⟨0, rfl, Nat.zero_le _, Lib.hid (by simp), Lib.hid (Below.refl _ _)⟩
  case round =>
    obtain ⟨k, rfl, hk, HT, HB⟩ := hrel
    rcases Nat.lt_or_ge k xs.length with hlt | hge
    · have hlt2 : k < ys.length := by have := HN.out; omega
      obtain ⟨b1, o1, rfl, hb1, x0, x1, x2, x3, x4⟩ := (H1.out.next HB.out).ins hlt
      obtain ⟨b2, o2, rfl, hb2, y0, y1, y2, y3, y4⟩ := (H2.out.next HB.out).ins hlt2
      have HBD := Lib.hid HB.out.drew
      have HEQ := Lib.hid fun W => ins_eql xs[k] ys[k] W
      rcases he : eqI xs[k] ys[k] with _ | _
      · have HF : Hid (q = false) := Lib.hid (by
          rw [← HQ.out, decide_eq_false_iff_not]
          rintro rfl
          rw [(eqI_iff _ _).2 rfl] at he; cases he)
        rw [he] at HEQ
        have heq := fun W => HEQ.out W
        generalize xs[k] = x at *
        generalize ys[k] = y at *
        obtain ⟨xo, xa, xb, xc, xi⟩ := x
        obtain ⟨yo, ya, yb, yc, yi⟩ := y
        simp only [GIns.val] at heq x0 x1 x2 x3 x4 y0 y1 y2 y3 y4
        clear he HEQ
        go_upto_region 6 with fail
        go_region
        go_wp2
        go_ret
        exact ⟨congrArg (fun b => Ending.returned (Value.bool b)) HF.out.symm, HBD.out⟩
      · have HT2 : Hid (xs.take (k + 1) = ys.take (k + 1)) := Lib.hid (by rw [List.take_succ_eq_append_getElem hlt, List.take_succ_eq_append_getElem hlt2, HT.out, (eqI_iff _ _).1 he])
        rw [he] at HEQ
        have heq := fun W => HEQ.out W
        generalize xs[k] = x at *
        generalize ys[k] = y at *
        obtain ⟨xo, xa, xb, xc, xi⟩ := x
        obtain ⟨yo, ya, yb, yc, yi⟩ := y
        simp only [GIns.val] at heq x0 x1 x2 x3 x4 y0 y1 y2 y3 y4
        clear he HEQ
        go_upto_region 6 with fail
        go_region
        go_wp2
        go_roundw
        case rel => exact ⟨k + 1, by go_num, by omega, HT2, HBD⟩
        case measure => simp [intOf]; omega
    · have HF : Hid (q = true) := Lib.hid (by
        rw [← HQ.out, decide_eq_true_eq]
        have h9 := HT.out
        have h8 := HN.out
        rwa [List.take_of_length_le hge, List.take_of_length_le (by omega)] at h9)
      go_wp2
      go_ret
      exact ⟨congrArg (fun b => Ending.returned (Value.bool b)) HF.out.symm, HB.out⟩
end Go.Proofs.YtahhmgoffdggpaaGreatDoor


namespace Go.Proofs.YtahhmgoffdggpaaGreatDoor

open Go.RowKit Go.Shelf

theorem Byt.next9 {w w' : World} {A : Option Addr} {n : Nat} {l : List UInt8} (h : Byt w w.heap.size A n l) (hb : Below w.heap.size w w') : Byt w' w'.heap.size A n l := (h.below hb).wide hb.size
theorem enc9 (ps : List GIns) (A : Option Addr) (c : Nat) (w : World) (hG : GlobP w) (h : GRow GIns.cells 5 w w.heap.size A ps) (hi : ∀ x ∈ ps, ImmOk x) (hv : valP ps = 0) :
    Calls Tryz.prog 6 #[.slice A ps.length c] w fun e w' => ∃ g, e = .returned (.tuple #[.slice (some ⟨g, 0, none⟩) (8 * ps.length) (8 * ps.length), .int .i64 0]) ∧ Byt w' w'.heap.size (some ⟨g, 0, none⟩) (8 * ps.length) (encL ps) ∧ Below w.heap.size w w' := by
  refine (encode_any ps A c w hG.1.2 h hi).mono ?_
  rintro e w' ⟨hb, h2⟩
  rw [if_pos hv] at h2
  obtain ⟨g, rfl, _, hbuf⟩ := h2
  have := hbuf.byt 0 (8 * ps.length) (by rw [length_encL]; omega)
  rw [List.drop_zero, List.take_of_length_le (by rw [length_encL]; omega)] at this
  exact ⟨g, rfl, this.wide (by have := hbuf.lt; omega), hb⟩
theorem dec9 (l : List UInt8) (A : Option Addr) (c : Nat) (w : World) (hG : GlobP w) (h : Byt w w.heap.size A l.length l) (hl : l.length ≤ 4294967296) (h8 : l.length % 8 = 0) (hv : valP (decP l) = 0) :
    Calls Tryz.prog 8 #[.slice A l.length c] w fun e w' => ∃ g, e = .returned (.tuple #[.slice (some ⟨g, 0, none⟩) (decP l).length (decP l).length, .int .i64 0]) ∧ GRow GIns.cells 5 w' w'.heap.size (some ⟨g, 0, none⟩) (decP l) ∧ Below w.heap.size w w' := by
  refine (decode_any l A c w h hl hG.1.2).mono ?_
  rintro e w' ⟨hb, h2⟩
  rw [if_neg (by omega), if_pos hv] at h2
  obtain ⟨g, rfl, _, hd⟩ := h2
  exact ⟨g, by rw [decP_len], hd.row, hb⟩
theorem dec9_bad (l : List UInt8) (A : Option Addr) (c : Nat) (w : World) (hG : GlobP w) (h : Byt w w.heap.size A l.length l) (hl : l.length ≤ 4294967296) (hv : ¬ (l.length % 8 = 0 ∧ valP (decP l) = 0)) :
    Calls Tryz.prog 8 #[.slice A l.length c] w fun e w' => ∃ x : Int, e = .returned (.tuple #[.slice none 0 0, .int .i64 x]) ∧ x ≠ 0 ∧ Below w.heap.size w w' := by
  refine (decode_any l A c w h hl hG.1.2).mono ?_
  rintro e w' ⟨hb, h2⟩
  by_cases h8 : l.length % 8 = 0
  · rw [if_neg (by omega), if_neg (fun hh => hv ⟨h8, hh⟩)] at h2
    exact ⟨_, h2, fun hh => hv ⟨h8, hh⟩, hb⟩
  · rw [if_pos h8] at h2
    exact ⟨_, h2, by decide, hb⟩
theorem asm9 (ps : List GIns) (h : AllOk ps.length ps) (h1 : 1 ≤ ps.length) (h2 : ps.length ≤ 12) (w : World) (hG : GlobP w) :
    Calls Tryz.prog 15 #[.string ⟨(disF ps ps.length).toArray⟩] w fun e w' => ∃ A c, e = .returned (.tuple #[.slice A ps.length c, .agg #[.int .i64 0, .int .i64 0], .int .i64 0]) ∧ GRow GIns.cells 5 w' w'.heap.size A ps ∧ Below w.heap.size w w' := by
  obtain ⟨s, hs, hp⟩ := dis_asm h h1 (by omega)
  have hl := disF_len ps h.imm (by omega) ps.length (Nat.le_refl _)
  have ha := asm_any (disF ps ps.length) w (by unfold maxLen; omega) hG.1.1 hG.1.2
  rw [hs] at ha
  refine ha.mono ?_
  intro e w' hE
  obtain ⟨pv, rfl, hown, hb⟩ := hE
  rw [hp] at hown
  obtain ⟨A1, c1, hv, _, _, hrow⟩ := hown.row GIns.len
  subst hv
  exact ⟨A1, c1, rfl, hrow, hb⟩
end Go.Proofs.YtahhmgoffdggpaaGreatDoor


namespace Go.Proofs.YtahhmgoffdggpaaGreatDoor

open Go.RowKit Go.Shelf

def renG (p : List UInt8) (t : GTok) : GTok := if isLB t.bare then { t with text := p ++ t.text } else t
theorem renG_bare (p : List UInt8) (t : GTok) : (renG p t).bare = renB p t.bare := by
  unfold renG renB; split <;> rfl
/-- The token i is a label's word at its use. -/
def useAt : List GTok → Nat → Bool
  | [], _ => false
  | t :: r, 0 => useB t.bare (r.map GTok.bare)
  | _ :: r, i + 1 => useAt r i
def misG (ms : List UInt8) (q : Bool) (t : GTok) : GTok := if q then { t with text := ms } else t
def ren2G (ms : List UInt8) : List GTok → List GTok
  | [] => []
  | t :: r => misG ms (useB t.bare (r.map GTok.bare)) t :: ren2G ms r
theorem ren2G_len (ms : List UInt8) : ∀ ts, (ren2G ms ts).length = ts.length
  | [] => rfl
  | t :: r => by rw [ren2G, List.length_cons, List.length_cons, ren2G_len ms r]
theorem ren2G_bare (ms : List UInt8) : ∀ ts, (ren2G ms ts).map GTok.bare = ren2 ms (ts.map GTok.bare)
  | [] => rfl
  | t :: r => by
    rw [ren2G, List.map_cons, List.map_cons, ren2, ren2G_bare ms r]
    congr 1
    unfold misG; split <;> rfl
theorem ren2G_get (ms : List UInt8) : ∀ (ts : List GTok) (i : Nat) (h : i < ts.length), (ren2G ms ts)[i]'(by rw [ren2G_len]; exact h) = misG ms (useAt ts i) ts[i]
  | t :: r, 0, _ => rfl
  | t :: r, i + 1, h => ren2G_get ms r i (by simpa using h)
def anyU (ts : List GTok) (i : Nat) : Bool := (List.range i).any (useAt ts)
theorem anyU_succ (ts : List GTok) (i : Nat) : anyU ts (i + 1) = (anyU ts i || useAt ts i) := by
  unfold anyU; rw [List.range_succ, List.any_append]; simp
theorem anyU_all : ∀ ts : List GTok, anyU ts ts.length = any2 (ts.map GTok.bare)
  | [] => rfl
  | t :: r => by
    rw [List.map_cons, any2, ← anyU_all r]
    unfold anyU
    rw [List.length_cons, List.range_succ_eq_map, List.any_cons, List.any_map]
    rfl
theorem useAt_no {ts : List GTok} {i : Nat} (h : i < ts.length) (hn : isLB ts[i].bare = false) : useAt ts i = false := by
  induction ts generalizing i with
  | nil => rfl
  | cons t r ih =>
    cases i with
    | zero => simp only [List.getElem_cons_zero] at hn; simp [useAt, useB, hn]
    | succ i => exact ih (by simpa using h) hn
theorem useAt_end {ts : List GTok} {i : Nat} (h : i < ts.length) (hn : isLB ts[i].bare = true) (he : ts.length ≤ i + 1) : useAt ts i = true := by
  induction ts generalizing i with
  | nil => simp at h
  | cons t r ih =>
    cases i with
    | zero =>
      have : r = [] := List.length_eq_zero_iff.1 (by rw [List.length_cons] at he; omega)
      subst this
      simp only [List.getElem_cons_zero] at hn
      simp [useAt, useB, hn, nextT]
    | succ i => exact ih (by simpa using h) hn (by simpa using he)
theorem useAt_next {ts : List GTok} {i : Nat} (h : i + 1 < ts.length) (hn : isLB (ts[i]'(by omega)).bare = true) : useAt ts i = !(ts[i + 1].text == [58]) := by
  induction ts generalizing i with
  | nil => simp at h
  | cons t r ih =>
    cases i with
    | zero =>
      cases r with
      | nil => simp at h
      | cons u r =>
        simp only [List.getElem_cons_zero] at hn
        show (isLB t.bare && !(u.text == [58])) = _
        rw [hn]
        rfl
    | succ i => exact ih (i := i) (by simpa using h) hn
theorem GRow.tok5 {w : World} {B : Nat} {A : Option Addr} {ts : List GTok} (h : GRow GTok.cells 5 w B A ts) {k : Nat} (hk : k < ts.length) : ∃ b off, A = some ⟨b, off, none⟩ ∧ b < B ∧
    w.cell? ⟨b, off + k * 5, none⟩ = some (.int .i64 ts[k].kind) ∧ w.cell? ⟨b, off + k * 5 + 1, none⟩ = some (.string ⟨ts[k].text.toArray⟩) ∧ w.cell? ⟨b, off + k * 5 + 2, none⟩ = some (.int .u64 ts[k].value) ∧ w.cell? ⟨b, off + k * 5 + 3, none⟩ = some (.int .i64 ts[k].line) ∧ w.cell? ⟨b, off + k * 5 + 4, none⟩ = some (.int .i64 ts[k].col) := by
  obtain ⟨b, off, rfl, hb, hc⟩ := h (by omega)
  exact ⟨b, off, rfl, hb, hc k hk 0 _ rfl, hc k hk 1 _ rfl, hc k hk 2 _ rfl, hc k hk 3 _ rfl, hc k hk 4 _ rfl⟩
abbrev OwnK (w : World) (base : Nat) (v : Value) (ts : List GTok) : Prop := OwnG GTok.cells 80 5 w base v ts
theorem tok_one (t : GTok) : ∀ u ∈ t.cells, u.oneCell' = true := by intro u hu; simp [GTok.cells] at hu; rcases hu with rfl | rfl | rfl | rfl | rfl <;> rfl
/-- Two lists of one's own. -/
structure Two2 (base : Nat) (w : World) (vu vw : Value) (us ws : List GTok) : Prop where
  u : OwnK w base vu us
  v : OwnK w base vw ws
  ne : ∀ g, vu.ownBlock = some g → vw.ownBlock ≠ some g
theorem Two2.swap {base : Nat} {w : World} {vu vw : Value} {us ws : List GTok} (h : Two2 base w vu vw us ws) : Two2 base w vw vu ws us := ⟨h.v, h.u, fun g h1 h2 => h.ne g h2 h1⟩
theorem Two2.next {base : Nat} {w w' : World} {vu vw : Value} {us ws : List GTok} (h : Two2 base w vu vw us ws) (hb : Below w.heap.size w w') : Two2 base w' vu vw us ws := ⟨h.u.next hb, h.v.next hb, h.ne⟩
/-- A token behind the first list: the second is asx it was. -/
theorem Two2.app {base : Nat} {W : World} {vu vw : Value} {us ws : List GTok} (h : Two2 base W vu vw us ws) (hb : base ≤ W.heap.size) (hn : us.length ≤ 100000) (t : GTok) :
    ∃ v' w', (Builtin.append_ #[74, 74] 74 #[vu, .slice (some ⟨W.heap.size, 0, none⟩) 1 1]).run Tryz.prog (W.alloc (.cells #[.int .i64 t.kind, .string ⟨t.text.toArray⟩, .int .u64 t.value, .int .i64 t.line, .int .i64 t.col] 80)) = .ok v' w' ∧ Two2 base w' v' vw (us ++ [t]) ws ∧ Below base W w' ∧ (∀ g, W.heap.size ≤ g ∨ vu.ownBlock ≠ some g → g < W.heap.size → w'.heap[g]? = W.heap[g]?) := by
  have hlit := GRow.lit GTok.len5 W 80 [t] #[.int .i64 t.kind, .string ⟨t.text.toArray⟩, .int .u64 t.value, .int .i64 t.line, .int .i64 t.col] rfl (by unfold maxLen; simp)
  obtain ⟨v', w3, hrun, hown3, hgr3, hob⟩ := OwnG.app elt_tok GTok.len5 tok_one (h.u.alloc (.cells #[.int .i64 t.kind, .string ⟨t.text.toArray⟩, .int .u64 t.value, .int .i64 t.line, .int .i64 t.col] 80)) 1 hlit (by simp; omega) (by unfold maxLen; simp; omega) (by simp; omega)
  have hbk : ∀ g, vu.ownBlock ≠ some g → g < W.heap.size → w3.heap[g]? = W.heap[g]? := fun g hg hlt => by
    have h1 := hgr3.block g (by simp; omega) (fun e => hg e.symm)
    rw [h1]
    exact heap_alloc_old _ _ hlt
  have hsz : W.heap.size + 1 ≤ w3.heap.size := by have := hgr3.size; simpa using this
  refine ⟨v', w3, hrun, ⟨hown3, h.v.keep fun g hg => hbk g (fun e => h.ne g e hg) (h.v.lt g hg).2, fun g hg hg2 => ?_⟩, ?_, fun g h1 h2 => hbk g (by rcases h1 with h1 | h1 <;> first | omega | exact h1) h2⟩
  · rcases hob with e | e
    · rw [e] at hg; exact h.ne g hg hg2
    · rw [e] at hg
      have := (h.v.lt g hg2).2
      simp at hg
      omega
  · have hba : Below base W (W.alloc (.cells #[.int .i64 t.kind, .string ⟨t.text.toArray⟩, .int .u64 t.value, .int .i64 t.line, .int .i64 t.col] 80)) := (Below.refl base W).alloc hb _
    refine hba.trans ⟨hgr3.os, hgr3.tape, hgr3.output, hgr3.size, ?_⟩
    intro k hk
    refine hgr3.block k (by simp; omega) (fun e => ?_)
    have := h.u.lt k e.symm
    omega
end Go.Proofs.YtahhmgoffdggpaaGreatDoor
