/-
  The law IsaLabels returns true, whatever the numbers and the prefix.
  Conditions: the listed variables lie as the program's start lays them.
  The reference's Jumps; lists changed in place, element by element; parts of a row.
  Conditions: as each theorem says.
  The law IsaConcat returns true, whatever the numbers.
  Conditions: the listed variables lie as the program's start lays them.
-/
import Derived.Test.YtogebcgkcijacaaGreatDoorMb32
import Derived.Test.YtogebcgkcijacaaGreatDoorMb31
import Derived.Test.YtogebcgkcijacaaGreatDoorMb28
namespace Go.Proofs.YtogebcgkcijacaaGreatDoor
open Go.RowKit Go.Shelf

/-- The loop of IsaLabels, at the token i. -/
structure LbJ (w0 : World) (p : List UInt8) (T : List GTok) (i : Nat) (vu vw : Value) (wr : World) : Prop where
  two : Two2 w0.heap.size wr vu vw ((T.map (renG p)).take i) ((ren2G msW T).take i)
  bel : Below w0.heap.size w0 wr
theorem scan9 (ps : List GIns) (h : AllOk ps.length ps) (h2 : ps.length ≤ 12) (w : World) (hG : GlobP w) :
    Calls Tryz.prog 22 #[.string ⟨(disF ps ps.length).toArray⟩] w fun e w' => ∃ A c T, e = .returned (.tuple #[.slice A T.length c, .agg #[.int .i64 0, .int .i64 0], .int .i64 0]) ∧ GRow GTok.cells 5 w' w'.heap.size A T ∧ T.map GTok.bare = progB nmW nmW (tgt ps) 0 ps ∧ T.length ≤ 156 ∧ Below w.heap.size w w' := by
  have hlex := disF_lex h (by omega) ps.length (Nat.le_refl _)
  rw [List.take_length] at hlex
  have hl := disF_len ps h.imm (by omega) ps.length (Nat.le_refl _)
  obtain ⟨q, us, e, hb⟩ := hlex [] trivial (1, 1)
  rw [List.append_nil] at e
  have hsc : scan (disF ps ps.length) = .ok us := by
    unfold scan
    rw [if_neg (by omega), e]
    simp [lex, Res.app]
  have hS := scan_any (disF ps ps.length) w hG.1.1 (by unfold maxLen; omega)
  rw [hsc] at hS
  refine hS.mono ?_
  rintro e w' ⟨v, rfl, hown, hbl⟩
  have hown' : OwnK w' (w.heap.size + 1) v (us.map Tok.g) := hown
  obtain ⟨A, c, rfl, _, _, hrow⟩ := hown'.row GTok.len5
  have hbare : (us.map Tok.g).map GTok.bare = progB nmW nmW (tgt ps) 0 ps := by rw [List.map_map, ← hb]; rfl
  have hf := progB_few (dfn := nmW) (use := nmW) (tg := tgt ps) ps 0
  refine ⟨A, c, us.map Tok.g, rfl, hrow, hbare, ?_, hbl⟩
  have := congrArg List.length hbare
  rw [List.length_map] at this
  omega
/-- The block N holds the token t. -/
def TkB (w : World) (N : Nat) (t : GTok) : Prop := w.heap[N]? = some (.cells #[.int .i64 t.kind, .string ⟨t.text.toArray⟩, .int .u64 t.value, .int .i64 t.line, .int .i64 t.col] 47 (0, 0))
theorem TkB.cells {w : World} {N : Nat} {t : GTok} (h : TkB w N t) : w.cell? ⟨N, 0, none⟩ = some (.int .i64 t.kind) ∧ w.cell? ⟨N, 1, none⟩ = some (.string ⟨t.text.toArray⟩) ∧ w.cell? ⟨N, 2, none⟩ = some (.int .u64 t.value) ∧ w.cell? ⟨N, 3, none⟩ = some (.int .i64 t.line) ∧ w.cell? ⟨N, 4, none⟩ = some (.int .i64 t.col) := by
  refine ⟨?_, ?_, ?_, ?_, ?_⟩ <;> rw [Lib.cell_of_heap h] <;> rfl
theorem TkB.frz {w : World} {N : Nat} {t : GTok} (h : TkB w N t) (j : Nat) : w.frozen? ⟨N, j, none⟩ = false := Lib.frozen_of_heap h j
theorem TkB.lt {w : World} {N : Nat} {t : GTok} (h : TkB w N t) : N < w.heap.size := heap_lt h
/-- Two tokens in blocks of their own beside the two lists. -/
structure St9 (w4 : World) (vu vw : Value) (us ws : List GTok) (N M : Nat) (t1 t2 : GTok) (wz : World) : Prop where
  two : Two2 w4.heap.size wz vu vw us ws
  bel : Below w4.heap.size w4 wz
  tN : TkB wz N t1
  tM : TkB wz M t2
  ne : N ≠ M
  gN : w4.heap.size ≤ N
  gM : w4.heap.size ≤ M
  o1 : ∀ g, vu.ownBlock = some g → g ≠ N ∧ g ≠ M
  o2 : ∀ g, vw.ownBlock = some g → g ≠ N ∧ g ≠ M
theorem set_blk {w : World} {N k : Nat} (j : Nat) (v : Value) (h : k ≠ N) : (w.setCell ⟨N, j, none⟩ v).heap[k]? = w.heap[k]? := Below.heap_setCell w ⟨N, j, none⟩ v k h
theorem TkB.put {w : World} {N : Nat} {t : GTok} (h : TkB w N t) (x : List UInt8) : TkB (w.setCell ⟨N, 1, none⟩ (.string ⟨x.toArray⟩)) N { t with text := x } := by
  unfold TkB at *
  rw [Lib.heap_setCell_same h]
  rfl
theorem St9.put1 {w4 : World} {vu vw : Value} {us ws : List GTok} {N M : Nat} {t1 t2 : GTok} {wz : World} (h : St9 w4 vu vw us ws N M t1 t2 wz) (x : List UInt8) : St9 w4 vu vw us ws N M { t1 with text := x } t2 (wz.setCell ⟨N, 1, none⟩ (.string ⟨x.toArray⟩)) :=
  ⟨⟨h.two.u.keep fun g hg => set_blk _ _ (h.o1 g hg).1, h.two.v.keep fun g hg => set_blk _ _ (h.o2 g hg).1, h.two.ne⟩, h.bel.setCell (p := ⟨N, 1, none⟩) h.gN _, h.tN.put x, (set_blk _ _ (Ne.symm h.ne)).trans h.tM, h.ne, h.gN, h.gM, h.o1, h.o2⟩
theorem St9.put2 {w4 : World} {vu vw : Value} {us ws : List GTok} {N M : Nat} {t1 t2 : GTok} {wz : World} (h : St9 w4 vu vw us ws N M t1 t2 wz) (x : List UInt8) : St9 w4 vu vw us ws N M t1 { t2 with text := x } (wz.setCell ⟨M, 1, none⟩ (.string ⟨x.toArray⟩)) :=
  ⟨⟨h.two.u.keep fun g hg => set_blk _ _ (h.o1 g hg).2, h.two.v.keep fun g hg => set_blk _ _ (h.o2 g hg).2, h.two.ne⟩, h.bel.setCell (p := ⟨M, 1, none⟩) h.gM _, (set_blk _ _ h.ne).trans h.tN, h.tM.put x, h.ne, h.gN, h.gM, h.o1, h.o2⟩
theorem St9.app {w4 : World} {vu vw : Value} {us ws : List GTok} {N M : Nat} {t1 t2 : GTok} {wz : World} (h : St9 w4 vu vw us ws N M t1 t2 wz) (h1 : us.length ≤ 100000) (h2 : ws.length ≤ 100000) :
    ∃ v' w' v'' w'', (Builtin.append_ #[42, 42] 42 #[vu, .slice (some ⟨wz.heap.size, 0, none⟩) 1 1]).run Tryz.prog (wz.alloc (.cells #[.int .i64 t1.kind, .string ⟨t1.text.toArray⟩, .int .u64 t1.value, .int .i64 t1.line, .int .i64 t1.col] 47)) = .ok v' w' ∧
      TkB w' M t2 ∧
      (Builtin.append_ #[42, 42] 42 #[vw, .slice (some ⟨w'.heap.size, 0, none⟩) 1 1]).run Tryz.prog (w'.alloc (.cells #[.int .i64 t2.kind, .string ⟨t2.text.toArray⟩, .int .u64 t2.value, .int .i64 t2.line, .int .i64 t2.col] 47)) = .ok v'' w'' ∧
      Two2 w4.heap.size w'' v' v'' (us ++ [t1]) (ws ++ [t2]) ∧ Below w4.heap.size w4 w'' := by
  obtain ⟨v', w', r1, t', b1, k1⟩ := h.two.app h.bel.size h1 t1
  have hM : TkB w' M t2 := (k1 M (.inr fun e => (h.o1 M e).2 rfl) h.tM.lt).trans h.tM
  obtain ⟨v'', w'', r2, t'', b2, _⟩ := t'.swap.app (h.bel.trans b1).size h2 t2
  exact ⟨v', w', v'', w'', r1, hM, r2, t''.swap, (h.bel.trans b1).trans b2⟩
theorem old2 (w : World) (o1 o2 : Obj) {b : Nat} (k : Nat) (h : b < w.heap.size) : ((w.alloc o1).alloc o2).drew.cell? ⟨b, k, none⟩ = w.cell? ⟨b, k, none⟩ := by
  have h1 : ((w.alloc o1).alloc o2).heap[b]? = w.heap[b]? := by
    rw [heap_alloc_old _ _ (by simp; omega), heap_alloc_old _ _ h]
  have h2 : ((w.alloc o1).alloc o2).drew.heap[b]? = w.heap[b]? := h1
  simp only [World.cell?, h2]
theorem St9.start {w4 wr : World} {vu vw : Value} {us ws : List GTok} (h : Two2 w4.heap.size wr vu vw us ws) (hb : Below w4.heap.size w4 wr) (t : GTok) {N M : Nat} {wx : World} (hN : TkB wx N t) (hM : TkB wx M t) (hne : N ≠ M) (gN : wr.heap.size ≤ N) (gM : wr.heap.size ≤ M) (hbx : Below wr.heap.size wr wx) : St9 w4 vu vw us ws N M t t wx :=
  ⟨h.next hbx, hb.trans (Below.mono hbx hb.size), hN, hM, hne, Nat.le_trans hb.size gN, Nat.le_trans hb.size gM, fun g hg => by have := (h.u.lt g hg).2; omega, fun g hg => by have := (h.v.lt g hg).2; omega⟩
/-- What region 12 leaves. -/
def Lt9 (wr wx : World) (t : GTok) (a b : Value) : Prop := ∃ N M, a = .pointer (some ⟨N, 0, none⟩) ∧ b = .pointer (some ⟨M, 0, none⟩) ∧ TkB wx N t ∧ TkB wx M t ∧ N ≠ M ∧ wr.heap.size ≤ N ∧ wr.heap.size ≤ M ∧ Below wr.heap.size wr wx
theorem lt9_a (wr : World) (t : GTok) : Lt9 wr ((wr.alloc (.cells #[.int .i64 t.kind, .string ⟨t.text.toArray⟩, .int .u64 t.value, .int .i64 t.line, .int .i64 t.col] 47)).alloc (.cells #[.int .i64 t.kind, .string ⟨t.text.toArray⟩, .int .u64 t.value, .int .i64 t.line, .int .i64 t.col] 47)).drew t (.pointer (some ⟨wr.heap.size, 0, none⟩)) (.pointer (some ⟨wr.heap.size + 1, 0, none⟩)) := by
  refine ⟨_, _, rfl, rfl, ?_, ?_, by omega, Nat.le_refl _, by omega, (bel_lit (bel_lit (Below.refl _ _) _) _).drew⟩
  · show (World.alloc _ _).heap[_]? = _
    rw [heap_alloc_old _ _ (by simp)]
    exact heap_alloc_new wr _
  · have := heap_alloc_new (wr.alloc (.cells #[.int .i64 t.kind, .string ⟨t.text.toArray⟩, .int .u64 t.value, .int .i64 t.line, .int .i64 t.col] 47)) (.cells #[.int .i64 t.kind, .string ⟨t.text.toArray⟩, .int .u64 t.value, .int .i64 t.line, .int .i64 t.col] 47)
    simpa [TkB, World.drew] using this
theorem lt9_b (wr : World) (t : GTok) : Lt9 wr ((wr.alloc (.cells #[.int .i64 t.kind, .string ⟨t.text.toArray⟩, .int .u64 t.value, .int .i64 t.line, .int .i64 t.col] 47)).alloc (.cells #[.int .i64 t.kind, .string ⟨t.text.toArray⟩, .int .u64 t.value, .int .i64 t.line, .int .i64 t.col] 47)).drew t (.pointer (some ⟨wr.heap.size + 1, 0, none⟩)) (.pointer (some ⟨wr.heap.size, 0, none⟩)) := by
  obtain ⟨N, M, h1, h2, h3, h4, h5, h6, h7, h8⟩ := lt9_a wr t
  exact ⟨M, N, h2, h1, h4, h3, Ne.symm h5, h7, h6, h8⟩
theorem ba_app9 (a b : List UInt8) : ((⟨a.toArray⟩ : ByteArray) ++ ⟨b.toArray⟩) = ⟨(a ++ b).toArray⟩ := by
  apply ByteArray.ext
  simp [ByteArray.data_append]
theorem bok_w {y z t : Int} {w : List UInt8} (h : BOk (GTok.bare ⟨1, w, y, z, t⟩)) : ∃ c r, w = c :: r := by
  have := h.wf
  cases w with
  | nil => simp [wf, GTok.bare, wordB] at this
  | cons c r => exact ⟨c, r, rfl⟩
theorem asm9g (l : List UInt8) (ps : List GIns) {s : ASt} (hs : asmAll l = .ok () s) (hp : s.prog = ps) (hl : l.length ≤ maxLen) (w : World) (hG : GlobP w) :
    Calls Tryz.prog 18 #[.string ⟨l.toArray⟩] w fun e w' => ∃ A c, e = .returned (.tuple #[.slice A ps.length c, .agg #[.int .i64 0, .int .i64 0], .int .i64 0]) ∧ GRow GIns.cells 5 w' w'.heap.size A ps ∧ Below w.heap.size w w' := by
  have ha := asm_any l w hl hG.1.1 hG.1.2
  rw [hs] at ha
  refine ha.mono ?_
  intro e w' hE
  obtain ⟨pv, rfl, hown, hb⟩ := hE
  rw [hp] at hown
  obtain ⟨A1, c1, hv, _, _, hrow⟩ := hown.row GIns.len
  subst hv
  exact ⟨A1, c1, rfl, hrow, hb⟩
theorem asm9o (l : List UInt8) {s : ASt} (hs : asmAll l = .ok () s) (hl : l.length ≤ maxLen) (w : World) (hG : GlobP w) :
    Calls Tryz.prog 18 #[.string ⟨l.toArray⟩] w fun e w' => ∃ A n c, e = .returned (.tuple #[.slice A n c, .agg #[.int .i64 0, .int .i64 0], .int .i64 0]) ∧ Below w.heap.size w w' := by
  refine (asm9g l s.prog hs rfl hl w hG).mono ?_
  rintro e w' ⟨A, c, rfl, _, hb⟩
  exact ⟨A, _, c, rfl, hb⟩
theorem asm9t (l : List UInt8) {a b : Int} (hs : asmAll l = .thr a b 72) (hl : l.length ≤ maxLen) (w : World) (hG : GlobP w) :
    Calls Tryz.prog 18 #[.string ⟨l.toArray⟩] w fun e w' => ∃ x y : Int, e = .returned (.tuple #[.slice none 0 0, .agg #[.int .i64 x, .int .i64 y], .int .i64 72]) ∧ Below w.heap.size w w' := by
  have ha := asm_any l w hl hG.1.1 hG.1.2
  rw [hs] at ha
  refine ha.mono ?_
  intro e w' hE
  obtain ⟨rfl, hb⟩ := hE
  exact ⟨_, _, rfl, hb⟩
set_option maxRecDepth 50000 in
set_option maxHeartbeats 4000000 in
theorem labels9 (A : Option Addr) (len cap : Nat) (zs : List Int) (p : List UInt8) (w : World) (hG : GlobP w) (hr : IRow w w.heap.size A len cap zs) (hp : p.length ≤ maxLen) :
    Calls Tryz.prog 6 #[.slice A len cap, .string ⟨p.toArray⟩] w fun e w' => e = .returned (.bool true) ∧ Below w.heap.size w w' := by
  have hsz : (⟨p.toArray⟩ : ByteArray).size = p.length := ba_size p
  have HG := Lib.hid hG
  have HAW := Lib.hid fun W (hW : GlobP W) => awake9 W hW.1
  have HIN := Lib.hid (isName_any p w hp)
  have HA0 := Lib.hid (HAW.out w hG)
  rcases Nat.lt_or_ge 200 len with h | h
  · have f1 : decide ((200 : Int) < len) = true := by simp; omega
    clear hG hr hsz
    go_enter Tryz.func6, Tryz.ntmps6
    go_wp2_with fail
    go_fit HA0.out
    rintro e w1 ⟨rfl, hb1⟩
    have HB1 := Lib.hid hb1
    clear hb1
    go_wp2
    go_ret
    exact ⟨rfl, HB1.out⟩
  have f1 : decide ((200 : Int) < len) = false := by simp; omega
  clear h
  rcases Nat.lt_or_ge 20 p.length with h | h
  · have f2 : decide ((20 : Int) < (p.length : Int)) = true := by simp; omega
    clear hG hr h
    go_enter Tryz.func6, Tryz.ntmps6
    go_wp2_with fail
    go_fit HA0.out
    rintro e w1 ⟨rfl, hb1⟩
    have HB1 := Lib.hid hb1
    clear hb1
    go_wp2
    go_ret
    exact ⟨rfl, HB1.out⟩
  have f2 : decide ((20 : Int) < (p.length : Int)) = false := by simp; omega
  rcases hnm : nameB p with _ | _
  · rw [hnm] at HIN
    clear hG hr h hnm
    go_enter Tryz.func6, Tryz.ntmps6
    go_wp2_with fail
    go_fit HIN.out
    rintro e w1 ⟨rfl, rfl⟩
    go_wp2_with fail
    go_fit HA0.out
    rintro e w1 ⟨rfl, hb1⟩
    have HB1 := Lib.hid hb1
    clear hb1
    go_wp2
    go_ret
    exact ⟨rfl, HB1.out⟩
  have HWB : Hid (wordB p = true ∧ p.length ≤ 20) := Lib.hid (by
    unfold nameB at hnm
    rw [Bool.and_eq_true] at hnm
    exact ⟨hnm.2, h⟩)
  rw [hnm] at HIN
  have HPK := Lib.hid (program_kit A len cap zs w hr)
  clear hG hr h hnm HA0
  go_enter Tryz.func6, Tryz.ntmps6
  go_wp2_with fail
  go_fit HIN.out
  rintro e w1 ⟨rfl, rfl⟩
  clear HIN
  go_wp2_with fail
  go_fit HPK.out
  rintro e w1 ⟨v, ps, rfl, hown, hn1, hn2, hall, hb1⟩
  have HB1 := Lib.hid hb1
  have HALL := Lib.hid hall
  obtain ⟨A1, c1, hv, hcap1, _, hrow⟩ := hown.row GIns.len
  subst hv
  have HROW := Lib.hid hrow
  have HG1 := Lib.hid (HG.out.next hb1)
  have HDI := Lib.hid (dis_any ps A1 c1 w1 HG1.out.1.2 HG1.out.2 hrow hall.imm (hall.valP hn1 (by omega)))
  clear hown hrow hb1 hall HPK f1 f2 hcap1 hsz
  go_wp2_with fail
  go_fit HDI.out
  rintro e w2 ⟨rfl, hb2⟩
  have HB2 := Lib.hid (bel_next HB1.out hb2)
  have HG2 := Lib.hid (HG1.out.next hb2)
  have HROW2 := Lib.hid (HROW.out.next hb2)
  have HSC := Lib.hid (scan9 ps HALL.out hn2 w2 HG2.out)
  clear hb2 HDI HB1 HG1 HROW
  go_wp2_with fail
  go_fit HSC.out
  rintro e w3 ⟨AT, cT, T, rfl, hrT, hbT, hlT, hb3⟩
  have hbA := bel_next hb3 (bel_lit (Below.refl _ w3) (.cells #[.int .i64 0, .int .i64 0] 35))
  have HT := Lib.hid (GRow.next hrT (bel_lit (Below.refl _ w3) (.cells #[.int .i64 0, .int .i64 0] 35)))
  have HB3 := Lib.hid (bel_next HB2.out hbA)
  have HG3 := Lib.hid (HG2.out.next hbA)
  have HROW3 := Lib.hid (HROW2.out.next hbA)
  have HBT := Lib.hid hbT
  have HTB : Hid (∀ t ∈ T, BOk t.bare) := Lib.hid fun t ht => ok_prog (n := ps.length) (N := ps.length) (fun i hi => ⟨(nm_word i (by omega)).1, by have := (nm_word i (by omega)).2; omega⟩) (fun i hi => ⟨(nm_word i (by omega)).1, by have := (nm_word i (by omega)).2; omega⟩) ps 0 HALL.out (by omega) _ (by rw [← hbT]; exact List.mem_map_of_mem ht)
  clear hrT hbT hb3 hbA HSC HB2 HG2 HROW2
  go_upto_region 7 with fail
  generalize w3.alloc (.cells #[.int .i64 0, .int .i64 0] 35) = w4 at *
  have HI0 : Hid (LbJ w4 p T 0 (.slice none 0 0) (.slice none 0 0) w4) := Lib.hid ⟨⟨OwnG.nil _ _, OwnG.nil _ _, fun g hg => by simp [Value.ownBlock] at hg⟩, Below.refl _ _⟩
  generalize hTn : T.length = n at *
  have HTN := Lib.hid hTn
  clear hTn
  go_wp2
  go_loopw [9, 10, 11, 12] (fun vj vu vw vi wr => ∃ i : Nat, vi = .int .i64 i ∧ i ≤ n ∧ vj = .bool (anyU T i) ∧ Hid (LbJ w4 p T i vu vw wr)) (fun _ _ _ vi _ => n - (intOf vi).toNat)
  case atStart => exact ⟨0, rfl, Nat.zero_le _, rfl, HI0⟩
  case round =>
    obtain ⟨i, rfl, hi, rfl, HI⟩ := hrel
    clear HI0
    rcases Nat.lt_or_ge i n with hlt | hge
    · have hltT : i < T.length := by have := HTN.out; omega
      obtain ⟨bt, ot, hAT, hbtl, x0, x1, x2, x3, x4⟩ := (HT.out.next HI.out.bel).tok5 hltT
      have HAT := Lib.hid hAT
      subst hAT
      have HOLD : ∀ (o1 o2 : Obj) (k : Nat), ((wr.alloc o1).alloc o2).drew.cell? ⟨bt, k, none⟩ = wr.cell? ⟨bt, k, none⟩ := fun o1 o2 k => old2 wr o1 o2 k hbtl
      have HTX : Hid (i + 1 < T.length → wr.cell? ⟨bt, ot + (i + 1) * 5 + 1, none⟩ = some (.string ⟨(T.getD (i + 1) ⟨0, [], 0, 0, 0⟩).text.toArray⟩)) := Lib.hid fun h => by
        obtain ⟨b', o', e', _, _, y1, _⟩ := (HT.out.next HI.out.bel).tok5 h
        cases e'
        rw [List.getD_eq_getElem?_getD, List.getElem?_eq_getElem h]
        exact y1
      obtain ⟨tk, htk⟩ : ∃ t, T[i] = t := ⟨_, rfl⟩
      have HTK := Lib.hid htk
      rw [htk] at x0 x1 x2 x3 x4
      clear htk
      have HLA := Lib.hid (lt9_a wr tk)
      have HLB := Lib.hid (lt9_b wr tk)
      have HN : Hid ((T.map (renG p)).take (i + 1) = (T.map (renG p)).take i ++ [renG p tk] ∧ (ren2G msW T).take (i + 1) = (ren2G msW T).take i ++ [misG msW (useAt T i) tk]) := Lib.hid (by
        rw [List.take_succ_eq_append_getElem (by simpa using hltT), List.take_succ_eq_append_getElem (by rw [ren2G_len]; exact hltT), ren2G_get msW T i hltT, List.getElem_map, HTK.out]
        exact ⟨rfl, rfl⟩)
      obtain ⟨tk0, tk1, tk2, tk3, tk4⟩ := tk
      simp only at x0 x1 x2 x3 x4
      go_upto_region 12 with fail
      go_cut [13, 14] (fun va vb wx => Hid (Lt9 wr wx ⟨tk0, tk1, tk2, tk3, tk4⟩ va vb))
      case first =>
        go_region
        all_goals (go_wp2_with fail; go_meet; first | exact HLA.out | exact HLB.out)
      case rest =>
        obtain ⟨N, M, rfl, rfl, hN, hM, hne, gN, gM, hbx⟩ := hcut.out
        have HST := Lib.hid (St9.start HI.out.two HI.out.bel _ hN hM hne gN gM hbx)
        have HTX2 : Hid (i + 1 < T.length → wc.cell? ⟨bt, ot + (i + 1) * 5 + 1, none⟩ = some (.string ⟨(T.getD (i + 1) ⟨0, [], 0, 0, 0⟩).text.toArray⟩)) := Lib.hid fun h => (hbx.cell hbtl).trans (HTX.out h)
        have hbN : bt ≠ N := by omega
        have hbM : bt ≠ M := by omega
        have HBN := Lib.hid hbN
        have HNM := Lib.hid hne
        obtain ⟨a0, a1, a2, a3, a4⟩ := hN.cells
        have am := hM.cells.2.1
        have hne2 : M ≠ N := Ne.symm hne
        have zN := hN.frz 1
        have zM := hM.frz 1
        simp only at a0 a1 a2 a3 a4 am
        clear hcut hN hM gN gM hbx HTX HOLD HLA HLB x0 x1 x2 x3 x4 hbtl HI
        generalize wc = wx at *
        by_cases hk : tk0 = 1
        · subst hk
          obtain ⟨c, r, htx⟩ : ∃ c r, tk1 = c :: r := by
            have hb := HTB.out ⟨1, tk1, tk2, tk3, tk4⟩ (by rw [← HTK.out]; exact List.getElem_mem hltT)
            exact bok_w hb
          subst htx
          have HIX : Hid (∀ W : World, (Instr.index 9 (.string ⟨(c :: r).toArray⟩) (.int .i64 0)).run Tryz.prog W = .ok (.int .u8 (c.toNat : Nat)) W) := Lib.hid fun W => str_index (c :: r) 0 (by simp) W
          by_cases hc : c = 76
          · subst hc
            have hix : ∀ W : World, (Instr.index 9 (.string ⟨((76 : UInt8) :: r).toArray⟩) (.int .i64 0)).run Tryz.prog W = .ok (.int .u8 76) W := fun W => HIX.out W
            clear HIX
            have hrl : r.length ≤ 44 := by
              have := (HTB.out ⟨1, 76 :: r, tk2, tk3, tk4⟩ (by rw [← HTK.out]; exact List.getElem_mem hltT)).len
              simpa [GTok.bare] using this
            have hp20 := HWB.out.2
            have hL : isLB T[i].bare = true := by rw [HTK.out]; rfl
            have HCC : Hid (((⟨p.toArray⟩ : ByteArray) ++ ⟨((76 : UInt8) :: r).toArray⟩) = ⟨(p ++ 76 :: r).toArray⟩) := Lib.hid (ba_app9 _ _)
            have HREN : Hid (renG p ⟨1, 76 :: r, tk2, tk3, tk4⟩ = ⟨1, p ++ 76 :: r, tk2, tk3, tk4⟩) := Lib.hid rfl
            have hcc := HCC.out
            rcases Nat.lt_or_ge (i + 1) n with hin | hin
            · have hinT : i + 1 < T.length := by have := HTN.out; omega
              have hy := HTX2.out hinT
              have HU := useAt_next hinT hL
              have hge : decide ((n : Int) ≤ (i : Int) + 1) = false := by simp; omega
              rw [List.getD_eq_getElem?_getD, List.getElem?_eq_getElem hinT, Option.getD_some] at hy
              generalize T[i + 1].text = tx at *
              by_cases h58 : tx = [58]
              · subst h58
                have HMIS : Hid (misG msW (useAt T i) ⟨1, 76 :: r, tk2, tk3, tk4⟩ = ⟨1, 76 :: r, tk2, tk3, tk4⟩) := Lib.hid (by rw [HU]; rfl)
                have HJ : Hid (anyU T (i + 1) = anyU T i) := Lib.hid (by rw [anyU_succ, HU]; simp)
                clear HU hL HTX2
                have HS : Hid (St9 w4 u10 u11 ((T.map (renG p)).take i) ((ren2G msW T).take i) N M ⟨1, p ++ 76 :: r, tk2, tk3, tk4⟩ ⟨1, 76 :: r, tk2, tk3, tk4⟩ (wx.setCell ⟨N, 1, none⟩ (.string ⟨(p ++ 76 :: r).toArray⟩))) := Lib.hid (HST.out.put1 _)
                skip
                obtain ⟨v1, wa, v2, wb, r1, hMb, r2, htw, hbl⟩ := HS.out.app (by rw [List.length_take]; omega) (by rw [List.length_take]; omega)
                have HNE : Hid (LbJ w4 p T (i + 1) v1 v2 wb) := Lib.hid ⟨by rw [HN.out.1, HN.out.2, HREN.out, HMIS.out]; exact htw, hbl⟩
                have HR1 := Lib.hid r1
                have HR2 := Lib.hid r2
                obtain ⟨c0, c1', c2, c3, c4⟩ := HS.out.tN.cells
                obtain ⟨d0, d1, d2, d3, d4⟩ := hMb.cells
                simp only at c0 c1' c2 c3 c4 d0 d1 d2 d3 d4 HR1 HR2
                clear r1 r2 hMb htw hbl HREN HMIS HS
                go_upto_region 18 with fail
                generalize wx.setCell ⟨N, 1, none⟩ (.string ⟨(p ++ 76 :: r).toArray⟩) = wz at *
                go_wp2_with (at_builtin; first | refine wpList_gapp HR1.out rfl rfl rfl rfl rfl ?_ | refine wpList_gapp HR2.out rfl rfl rfl rfl rfl ?_)
                go_roundw
                case rel => exact ⟨i + 1, by go_num, by omega, by rw [HJ.out], HNE⟩
                case measure => simp [intOf]; omega
              · have HMIS : Hid (misG msW (useAt T i) ⟨1, 76 :: r, tk2, tk3, tk4⟩ = ⟨1, msW, tk2, tk3, tk4⟩) := Lib.hid (by rw [HU]; simp [h58, misG])
                have HJ : Hid (anyU T (i + 1) = true) := Lib.hid (by rw [anyU_succ, HU]; simp [h58])
                have hne58 : (tx == [58]) = false := by simpa using h58
                clear HU hL HTX2 h58
                have HS : Hid (St9 w4 u10 u11 ((T.map (renG p)).take i) ((ren2G msW T).take i) N M ⟨1, p ++ 76 :: r, tk2, tk3, tk4⟩ ⟨1, msW, tk2, tk3, tk4⟩ ((wx.setCell ⟨N, 1, none⟩ (.string ⟨(p ++ 76 :: r).toArray⟩)).setCell ⟨M, 1, none⟩ (.string ⟨#[109, 105, 115, 115, 105, 110, 103]⟩))) := Lib.hid ((HST.out.put1 _).put2 msW)
                skip
                obtain ⟨v1, wa, v2, wb, r1, hMb, r2, htw, hbl⟩ := HS.out.app (by rw [List.length_take]; omega) (by rw [List.length_take]; omega)
                have HNE : Hid (LbJ w4 p T (i + 1) v1 v2 wb) := Lib.hid ⟨by rw [HN.out.1, HN.out.2, HREN.out, HMIS.out]; exact htw, hbl⟩
                have HR1 := Lib.hid r1
                have HR2 := Lib.hid r2
                obtain ⟨c0, c1', c2, c3, c4⟩ := HS.out.tN.cells
                obtain ⟨d0, d1, d2, d3, d4⟩ := hMb.cells
                simp only at c0 c1' c2 c3 c4 d0 d1 d2 d3 d4 HR1 HR2
                clear r1 r2 hMb htw hbl HREN HMIS HS
                go_upto_region 18 with fail
                generalize (wx.setCell ⟨N, 1, none⟩ (.string ⟨(p ++ 76 :: r).toArray⟩)).setCell ⟨M, 1, none⟩ (.string ⟨#[109, 105, 115, 115, 105, 110, 103]⟩) = wz at *
                go_wp2_with (at_builtin; first | refine wpList_gapp HR1.out rfl rfl rfl rfl rfl ?_ | refine wpList_gapp HR2.out rfl rfl rfl rfl rfl ?_)
                go_roundw
                case rel => exact ⟨i + 1, by go_num, by omega, by rw [HJ.out], HNE⟩
                case measure => simp [intOf]; omega
            · have HU := useAt_end hltT hL (by have := HTN.out; omega)
              have hge : decide ((n : Int) ≤ (i : Int) + 1) = true := by simp; omega
              have HMIS : Hid (misG msW (useAt T i) ⟨1, 76 :: r, tk2, tk3, tk4⟩ = ⟨1, msW, tk2, tk3, tk4⟩) := Lib.hid (by rw [HU]; rfl)
              have HJ : Hid (anyU T (i + 1) = true) := Lib.hid (by rw [anyU_succ, HU]; simp)
              clear HU hL HTX2
              have HS : Hid (St9 w4 u10 u11 ((T.map (renG p)).take i) ((ren2G msW T).take i) N M ⟨1, p ++ 76 :: r, tk2, tk3, tk4⟩ ⟨1, msW, tk2, tk3, tk4⟩ ((wx.setCell ⟨N, 1, none⟩ (.string ⟨(p ++ 76 :: r).toArray⟩)).setCell ⟨M, 1, none⟩ (.string ⟨#[109, 105, 115, 115, 105, 110, 103]⟩))) := Lib.hid ((HST.out.put1 _).put2 msW)
              skip
              obtain ⟨v1, wa, v2, wb, r1, hMb, r2, htw, hbl⟩ := HS.out.app (by rw [List.length_take]; omega) (by rw [List.length_take]; omega)
              have HNE : Hid (LbJ w4 p T (i + 1) v1 v2 wb) := Lib.hid ⟨by rw [HN.out.1, HN.out.2, HREN.out, HMIS.out]; exact htw, hbl⟩
              have HR1 := Lib.hid r1
              have HR2 := Lib.hid r2
              obtain ⟨c0, c1', c2, c3, c4⟩ := HS.out.tN.cells
              obtain ⟨d0, d1, d2, d3, d4⟩ := hMb.cells
              simp only at c0 c1' c2 c3 c4 d0 d1 d2 d3 d4 HR1 HR2
              clear r1 r2 hMb htw hbl HREN HMIS HS
              go_upto_region 18 with fail
              generalize (wx.setCell ⟨N, 1, none⟩ (.string ⟨(p ++ 76 :: r).toArray⟩)).setCell ⟨M, 1, none⟩ (.string ⟨#[109, 105, 115, 115, 105, 110, 103]⟩) = wz at *
              go_wp2_with (at_builtin; first | refine wpList_gapp HR1.out rfl rfl rfl rfl rfl ?_ | refine wpList_gapp HR2.out rfl rfl rfl rfl rfl ?_)
              go_roundw
              case rel => exact ⟨i + 1, by go_num, by omega, by rw [HJ.out], HNE⟩
              case measure => simp [intOf]; omega
          · have HL : Hid (isLB T[i].bare = false) := Lib.hid (by rw [HTK.out]; simp [isLB, GTok.bare, hc])
            have HUS := Lib.hid (useAt_no hltT HL.out)
            have hix := fun W => HIX.out W
            clear HIX
            have hc2 : (((c.toNat : Nat) : Int) == 76) = false := by
              have : c.toNat ≠ 76 := fun e => hc (UInt8.toNat_inj.1 e)
              simp; omega
            have HREN : Hid (renG p ⟨1, c :: r, tk2, tk3, tk4⟩ = ⟨1, c :: r, tk2, tk3, tk4⟩) := Lib.hid (by have := HL.out; rw [HTK.out] at this; unfold renG; rw [this]; rfl)
            have HMIS : Hid (misG msW (useAt T i) ⟨1, c :: r, tk2, tk3, tk4⟩ = ⟨1, c :: r, tk2, tk3, tk4⟩) := Lib.hid (by rw [HUS.out]; rfl)
            have HJ : Hid (anyU T (i + 1) = anyU T i) := Lib.hid (by rw [anyU_succ, HUS.out]; simp)
            clear HL HUS HTX2 hc
            have HS : Hid (St9 w4 u10 u11 ((T.map (renG p)).take i) ((ren2G msW T).take i) N M ⟨1, c :: r, tk2, tk3, tk4⟩ ⟨1, c :: r, tk2, tk3, tk4⟩ (wx)) := Lib.hid (HST.out)
            skip
            obtain ⟨v1, wa, v2, wb, r1, hMb, r2, htw, hbl⟩ := HS.out.app (by rw [List.length_take]; omega) (by rw [List.length_take]; omega)
            have HNE : Hid (LbJ w4 p T (i + 1) v1 v2 wb) := Lib.hid ⟨by rw [HN.out.1, HN.out.2, HREN.out, HMIS.out]; exact htw, hbl⟩
            have HR1 := Lib.hid r1
            have HR2 := Lib.hid r2
            obtain ⟨c0, c1', c2, c3, c4⟩ := HS.out.tN.cells
            obtain ⟨d0, d1, d2, d3, d4⟩ := hMb.cells
            simp only at c0 c1' c2 c3 c4 d0 d1 d2 d3 d4 HR1 HR2
            clear r1 r2 hMb htw hbl HREN HMIS HS
            go_upto_region 18 with fail
            generalize wx = wz at *
            go_wp2_with (at_builtin; first | refine wpList_gapp HR1.out rfl rfl rfl rfl rfl ?_ | refine wpList_gapp HR2.out rfl rfl rfl rfl rfl ?_)
            go_roundw
            case rel => exact ⟨i + 1, by go_num, by omega, by rw [HJ.out], HNE⟩
            case measure => simp [intOf]; omega
        · have HL : Hid (isLB T[i].bare = false) := Lib.hid (by rw [HTK.out]; simp [isLB, GTok.bare, hk])
          have HUS := Lib.hid (useAt_no hltT HL.out)
          have g0 : (tk0 == 1) = false := by simp [hk]
          have HREN : Hid (renG p ⟨tk0, tk1, tk2, tk3, tk4⟩ = ⟨tk0, tk1, tk2, tk3, tk4⟩) := Lib.hid (by have := HL.out; rw [HTK.out] at this; unfold renG; rw [this]; rfl)
          have HMIS : Hid (misG msW (useAt T i) ⟨tk0, tk1, tk2, tk3, tk4⟩ = ⟨tk0, tk1, tk2, tk3, tk4⟩) := Lib.hid (by rw [HUS.out]; rfl)
          have HJ : Hid (anyU T (i + 1) = anyU T i) := Lib.hid (by rw [anyU_succ, HUS.out]; simp)
          clear HL HUS HTX2 hk
          have HS : Hid (St9 w4 u10 u11 ((T.map (renG p)).take i) ((ren2G msW T).take i) N M ⟨tk0, tk1, tk2, tk3, tk4⟩ ⟨tk0, tk1, tk2, tk3, tk4⟩ (wx)) := Lib.hid (HST.out)
          skip
          obtain ⟨v1, wa, v2, wb, r1, hMb, r2, htw, hbl⟩ := HS.out.app (by rw [List.length_take]; omega) (by rw [List.length_take]; omega)
          have HNE : Hid (LbJ w4 p T (i + 1) v1 v2 wb) := Lib.hid ⟨by rw [HN.out.1, HN.out.2, HREN.out, HMIS.out]; exact htw, hbl⟩
          have HR1 := Lib.hid r1
          have HR2 := Lib.hid r2
          obtain ⟨c0, c1', c2, c3, c4⟩ := HS.out.tN.cells
          obtain ⟨d0, d1, d2, d3, d4⟩ := hMb.cells
          simp only at c0 c1' c2 c3 c4 d0 d1 d2 d3 d4 HR1 HR2
          clear r1 r2 hMb htw hbl HREN HMIS HS
          go_upto_region 18 with fail
          generalize wx = wz at *
          go_wp2_with (at_builtin; first | refine wpList_gapp HR1.out rfl rfl rfl rfl rfl ?_ | refine wpList_gapp HR2.out rfl rfl rfl rfl rfl ?_)
          go_roundw
          case rel => exact ⟨i + 1, by go_num, by omega, by rw [HJ.out], HNE⟩
          case measure => simp [intOf]; omega
    · obtain rfl : i = n := by omega
      have HLO := Lib.hid (labs_ok HALL.out hn1 hn2 HWB.out.1 HWB.out.2 HBT.out (U := T.map (renG p)) (by rw [List.map_map, List.map_map]; exact List.map_congr_left fun t _ => renG_bare p t))
      have HLM := Lib.hid (labs_miss HALL.out hn1 hn2 HBT.out (W := ren2G msW T) (ren2G_bare msW T))
      have htwo := HI.out.two
      have hbel := HI.out.bel
      rw [List.take_of_length_le (by rw [List.length_map, HTN.out]; exact Nat.le_refl _), List.take_of_length_le (by rw [ren2G_len, HTN.out]; exact Nat.le_refl _)] at htwo
      obtain ⟨AU, cU, rfl, _, _, hrU⟩ := htwo.u.row GTok.len5
      obtain ⟨AW, cW, rfl, _, _, hrW⟩ := htwo.v.row GTok.len5
      obtain ⟨s1, hs1, hq1, hlu, hFU⟩ := HLO.out
      obtain ⟨hms, hlw, hFW⟩ := HLM.out
      have HBE := Lib.hid (bel_next HB3.out hbel)
      have HGE := Lib.hid (HG3.out.next hbel)
      have HRP := Lib.hid (HROW3.out.next hbel)
      have HRW : Hid (GRow GTok.cells 5 wr wr.heap.size AW (ren2G msW T)) := Lib.hid hrW
      have HFU := Lib.hid (format_any (T.map (renG p)) AU cU wr hrU hFU HGE.out.2)
      have HFW := Lib.hid fun W (hW : GlobP W) (hr : GRow GTok.cells 5 W W.heap.size AW (ren2G msW T)) => format_any (ren2G msW T) AW cW W hr hFW hW.2
      have HAU := Lib.hid fun W (hW : GlobP W) => asm9g (fmtL (T.map (renG p))) ps hs1 hq1 (by unfold maxLen; omega) W hW
      have HAE := Lib.hid (anyU_all T)
      by_cases hj : any2 (T.map GTok.bare) = true
      · rw [if_pos hj] at hms
        obtain ⟨xa, xb, hx⟩ := hms
        have HAM := Lib.hid fun W (hW : GlobP W) => asm9t (fmtL (ren2G msW T)) hx (by unfold maxLen; omega) W hW
        have gj : anyU T i = true := by rw [← HTN.out, HAE.out, hj]
        clear hj hx htwo hrU hrW HLO HLM hs1 hq1 hlu hFU hlw hFW hbel HI HT HAE HTB HBT
        generalize (T.map (renG p)).length = nu at *
        generalize fmtL (T.map (renG p)) = fu at *
        generalize hwl : (ren2G msW T).length = nw at *
        generalize fmtL (ren2G msW T) = fw at *
        go_wp2_with fail
        go_fit HFU.out
        rintro e wa ⟨rfl, hba⟩
        have HBA := Lib.hid (bel_next HBE.out hba)
        have HGA := Lib.hid (HGE.out.next hba)
        have HRPA := Lib.hid (HRP.out.next hba)
        have HRWA := Lib.hid (GRow.next HRW.out hba)
        clear hba HFU HBE HGE HRP HRW
        go_wp2_with fail
        go_fit (HAU.out _ HGA.out)
        rintro e wb ⟨AQ, cQ, rfl, hrq, hbb⟩
        have hbA := bel_next hbb (bel_lit (Below.refl _ wb) (.cells #[.int .i64 0, .int .i64 0] 35))
        have HRQ := Lib.hid (GRow.next hrq (bel_lit (Below.refl _ wb) (.cells #[.int .i64 0, .int .i64 0] 35)))
        have HBB := Lib.hid (bel_next HBA.out hbA)
        have HGB := Lib.hid (HGA.out.next hbA)
        have HRPB := Lib.hid (HRPA.out.next hbA)
        have HRWB := Lib.hid (HRWA.out.next hbA)
        clear hrq hbb hbA HAU HBA HGA HRPA HRWA
        go_upto_region 21 with fail
        generalize wb.alloc (.cells #[.int .i64 0, .int .i64 0] 35) = wc at *
        have HFX := Lib.hid (HFW.out wc HGB.out HRWB.out)
        clear HFW
        go_wp2_with fail
        go_fit HFX.out
        rintro e wd ⟨rfl, hbd⟩
        have HBD := Lib.hid (bel_next HBB.out hbd)
        have HGD := Lib.hid (HGB.out.next hbd)
        have HRPD := Lib.hid (HRPB.out.next hbd)
        have HRQD := Lib.hid (HRQ.out.next hbd)
        clear hbd HFX HBB HGB HRPB HRWB HRQ
        go_wp2_with fail
        go_fit (HAM.out _ HGD.out)
        rintro e we ⟨xa, xb, rfl, hbe⟩
        have hbA := bel_next hbe (bel_lit (Below.refl _ we) (.cells #[.int .i64 xa, .int .i64 xb] 35))
        have HBF := Lib.hid (bel_next HBD.out hbA)
        have HGF := Lib.hid (HGD.out.next hbA)
        have HSM := Lib.hid (rSmi_any ps ps A1 AQ c1 cQ _ (HRPD.out.next hbA) (HRQD.out.next hbA) (by omega) (by omega))
        have HDT : Hid (decide (ps = ps) = true) := Lib.hid (by simp)
        rw [HDT.out] at HSM
        clear hbe hbA HAM HBD HGD HRPD HRQD HDT
        go_upto_region 22 with fail
        generalize we.alloc (.cells #[.int .i64 xa, .int .i64 xb] 35) = wf at *
        go_wp2_with fail
        go_fit HSM.out
        rintro e wg ⟨rfl, hbg⟩
        have HBG := Lib.hid (bel_next HBF.out hbg)
        have HGG := Lib.hid (HGF.out.next hbg)
        clear hbg HSM HBF HGF
        go_wp2_with fail
        go_fit (HAW.out _ HGG.out)
        rintro e wh ⟨rfl, hbh⟩
        have HBH := Lib.hid (bel_next HBG.out hbh)
        clear hbh
        go_wp2
        go_ret
        exact ⟨rfl, HBH.out⟩
      · rw [if_neg hj] at hms
        obtain ⟨s2, hx⟩ := hms
        have HAM := Lib.hid fun W (hW : GlobP W) => asm9o (fmtL (ren2G msW T)) hx (by unfold maxLen; omega) W hW
        have gj : anyU T i = false := by rw [← HTN.out, HAE.out]; simpa using hj
        clear hj hx htwo hrU hrW HLO HLM hs1 hq1 hlu hFU hlw hFW hbel HI HT HAE HTB HBT
        generalize (T.map (renG p)).length = nu at *
        generalize fmtL (T.map (renG p)) = fu at *
        generalize hwl : (ren2G msW T).length = nw at *
        generalize fmtL (ren2G msW T) = fw at *
        go_wp2_with fail
        go_fit HFU.out
        rintro e wa ⟨rfl, hba⟩
        have HBA := Lib.hid (bel_next HBE.out hba)
        have HGA := Lib.hid (HGE.out.next hba)
        have HRPA := Lib.hid (HRP.out.next hba)
        have HRWA := Lib.hid (GRow.next HRW.out hba)
        clear hba HFU HBE HGE HRP HRW
        go_wp2_with fail
        go_fit (HAU.out _ HGA.out)
        rintro e wb ⟨AQ, cQ, rfl, hrq, hbb⟩
        have hbA := bel_next hbb (bel_lit (Below.refl _ wb) (.cells #[.int .i64 0, .int .i64 0] 35))
        have HRQ := Lib.hid (GRow.next hrq (bel_lit (Below.refl _ wb) (.cells #[.int .i64 0, .int .i64 0] 35)))
        have HBB := Lib.hid (bel_next HBA.out hbA)
        have HGB := Lib.hid (HGA.out.next hbA)
        have HRPB := Lib.hid (HRPA.out.next hbA)
        have HRWB := Lib.hid (HRWA.out.next hbA)
        clear hrq hbb hbA HAU HBA HGA HRPA HRWA
        go_upto_region 21 with fail
        generalize wb.alloc (.cells #[.int .i64 0, .int .i64 0] 35) = wc at *
        have HFX := Lib.hid (HFW.out wc HGB.out HRWB.out)
        clear HFW
        go_wp2_with fail
        go_fit HFX.out
        rintro e wd ⟨rfl, hbd⟩
        have HBD := Lib.hid (bel_next HBB.out hbd)
        have HGD := Lib.hid (HGB.out.next hbd)
        have HRPD := Lib.hid (HRPB.out.next hbd)
        have HRQD := Lib.hid (HRQ.out.next hbd)
        clear hbd HFX HBB HGB HRPB HRWB HRQ
        go_wp2_with fail
        go_fit (HAM.out _ HGD.out)
        rintro e we ⟨AX, nX, cX, rfl, hbe⟩
        have hbA := bel_next hbe (bel_lit (Below.refl _ we) (.cells #[.int .i64 0, .int .i64 0] 35))
        have HBF := Lib.hid (bel_next HBD.out hbA)
        have HGF := Lib.hid (HGD.out.next hbA)
        have HSM := Lib.hid (rSmi_any ps ps A1 AQ c1 cQ _ (HRPD.out.next hbA) (HRQD.out.next hbA) (by omega) (by omega))
        have HDT : Hid (decide (ps = ps) = true) := Lib.hid (by simp)
        rw [HDT.out] at HSM
        clear hbe hbA HAM HBD HGD HRPD HRQD HDT
        go_upto_region 22 with fail
        generalize we.alloc (.cells #[.int .i64 0, .int .i64 0] 35) = wf at *
        go_wp2_with fail
        go_fit HSM.out
        rintro e wg ⟨rfl, hbg⟩
        have HBG := Lib.hid (bel_next HBF.out hbg)
        have HGG := Lib.hid (HGF.out.next hbg)
        clear hbg HSM HBF HGF
        go_wp2_with fail
        go_fit (HAW.out _ HGG.out)
        rintro e wh ⟨rfl, hbh⟩
        have HBH := Lib.hid (bel_next HBG.out hbh)
        clear hbh
        go_wp2
        go_ret
        exact ⟨rfl, HBH.out⟩
end Go.Proofs.YtogebcgkcijacaaGreatDoor


namespace Go.Proofs.YtogebcgkcijacaaGreatDoor
open Go.RowKit Go.Shelf

theorem mem_116 {k : Nat} (hk : k < 28) : decide ((116 : UInt8) ∈ opsL k) = decide ((fmtN k).2.2 = 2) := by
  have : ∀ k : Fin 28, decide ((116 : UInt8) ∈ opsL k.val) = decide ((fmtN k.val).2.2 = 2) := by decide +kernel
  exact this ⟨k, hk⟩
theorem ops_short {k : Nat} (hk : k < 28) : (opsL k).length ≤ 5 := by
  have : ∀ k : Fin 28, (opsL k.val).length ≤ 5 := by decide +kernel
  exact this ⟨k, hk⟩
set_option maxRecDepth 50000 in
set_option maxHeartbeats 1000000 in
theorem uses_any (k : Nat) (hk : k < 28) (w : World) : Calls Tryz.prog 30 #[.int .i64 k, .int .u8 116] w fun e w' => e = .returned (.bool (decide ((fmtN k).2.2 = 2))) ∧ Below w.heap.size w w' := by
  have HO := Lib.hid (operands_ref k hk w)
  rw [← mem_116 hk]
  have HL := Lib.hid (ops_short hk)
  have hd : Hid (decide ((116 : UInt8) ∈ opsL k) = decide ((116 : UInt8) ∈ opsL k)) := Lib.hid rfl
  generalize hq : decide ((116 : UInt8) ∈ opsL k) = q at *
  have HQ := Lib.hid hq
  clear hq hd
  generalize opsL k = l at *
  go_enter Tryz.func30, Tryz.ntmps30
  go_wp2_with fail
  go_fit HO.out
  rintro e w1 ⟨rfl, hb1⟩
  have HB1 := Lib.hid hb1
  clear hb1 HO
  have hsz : (⟨l.toArray⟩ : ByteArray).size = l.length := ba_size l
  have hl5 := HL.out
  go_wp2
  go_loopw [6] (fun vi wr => ∃ i : Nat, vi = .int .i64 i ∧ i ≤ l.length ∧ wr = w1 ∧ Hid (∀ j, j < i → ∀ h : j < l.length, l[j] ≠ 116)) (fun vi _ => l.length - (intOf vi).toNat)
  case atStart => exact ⟨0, rfl, Nat.zero_le _, rfl, Lib.hid fun j hj => absurd hj (by omega)⟩
  case round =>
    obtain ⟨i, rfl, hi, rfl, HN⟩ := hrel
    rcases Nat.lt_or_ge i l.length with hlt | hge
    · have hix := fun W => str_index l i hlt W
      by_cases hc : l[i] = 116
      · have HF : Hid (q = true) := Lib.hid (by rw [← HQ.out, decide_eq_true_eq]; rw [← hc]; exact List.getElem_mem hlt)
        have g0 : (((l[i].toNat : Nat) : Int) == 116) = true := by rw [hc]; rfl
        clear hc
        go_wp2
        go_ret
        exact ⟨congrArg (fun b => Ending.returned (Value.bool b)) HF.out.symm, HB1.out⟩
      · have HN2 : Hid (∀ j, j < i + 1 → ∀ h : j < l.length, l[j] ≠ 116) := Lib.hid fun j hj h => by
          rcases Nat.lt_or_ge j i with h1 | h1
          · exact HN.out j h1 h
          · obtain rfl : j = i := by omega
            exact hc
        have g0 : (((l[i].toNat : Nat) : Int) == 116) = false := by
          have : l[i].toNat ≠ 116 := fun e => hc (UInt8.toNat_inj.1 e)
          simp; omega
        clear hc HN
        go_wp2
        go_roundw
        case rel => exact ⟨i + 1, by go_num, by omega, by first | rfl | trivial, HN2⟩
        case measure => simp [intOf]; omega
    · have HF : Hid (q = false) := Lib.hid (by
        rw [← HQ.out, decide_eq_false_iff_not]
        intro hm
        obtain ⟨j, hj, e⟩ := List.getElem_of_mem hm
        exact HN.out j (by omega) hj e)
      go_wp2
      go_ret
      exact ⟨congrArg (fun b => Ending.returned (Value.bool b)) HF.out.symm, HB1.out⟩
set_option maxRecDepth 50000 in
set_option maxHeartbeats 1000000 in
theorem jumps_any (x : GIns) (k : Nat) (hk : k < 28) (hx : x.op = k) (w : World) : Calls Tryz.prog 24 #[x.val] w fun e w' => e = .returned (.bool (decide ((fmtN x.op.toNat).2.2 = 2))) ∧ Below w.heap.size w w' := by
  have HU := Lib.hid fun W => uses_any k hk W
  have e : x.op.toNat = k := by rw [hx]; rfl
  rw [e]
  obtain ⟨xo, xa, xb, xc, xi⟩ := x
  simp only at hx
  subst hx
  generalize decide ((fmtN k).2.2 = 2) = q at *
  clear e
  unfold GIns.val
  simp only
  have g0 : decide ((0 : Int) ≤ (k : Int)) = true := by simp
  have g1 : decide ((k : Int) < 28) = true := by simp; omega
  go_enter Tryz.func24, Tryz.ntmps24
  go_wp2_with fail
  go_fit (HU.out _)
  rintro e w1 ⟨rfl, hb1⟩
  have HB1 := Lib.hid (bel_alloc (Below.refl _ w) hb1)
  clear hb1 HU
  go_wp2
  go_ret
  exact ⟨rfl, HB1.out⟩
theorem GRow.setE {α : Type} {enc : α → List Value} {m : Nat} (hk5 : ∀ x, (enc x).length = m) {w : World} {B g : Nat} {xs : List α} (h : GRow enc m w B (some ⟨g, 0, none⟩) xs) {k j0 : Nat} (hk : k < xs.length) (hj0 : j0 < m) (u : Value) (x : α) (hx : enc x = (enc xs[k]).set j0 u) :
    GRow enc m (w.setCell ⟨g, k * m + j0, none⟩ u) B (some ⟨g, 0, none⟩) (xs.set k x) := fun hn => by
  rw [List.length_set] at hn
  obtain ⟨b, o, e, hb, hc⟩ := h hn
  cases e
  refine ⟨g, 0, rfl, hb, fun i hi j v hv => ?_⟩
  have hj : j < m := by
    rcases Nat.lt_or_ge j m with h1 | h1
    · exact h1
    · rw [List.getElem?_eq_none (by rw [hk5]; exact h1)] at hv; cases hv
  have hi2 : i < xs.length := by simpa using hi
  rw [Nat.zero_add]
  by_cases hik : i = k
  · subst hik
    rw [List.getElem_set_self, hx] at hv
    by_cases hjj : j = j0
    · subst hjj
      rw [List.getElem?_set_self (by rw [hk5]; exact hj)] at hv
      injection hv with hv
      subst hv
      have hold := hc i hi2 j ((enc xs[i])[j]'(by rw [hk5]; exact hj)) (List.getElem?_eq_getElem _)
      rw [Nat.zero_add] at hold
      exact World.cell?_setCell_same w _ _ hold
    · rw [List.getElem?_set_ne (fun e => hjj e.symm)] at hv
      have hold := hc i hi2 j v hv
      rw [Nat.zero_add] at hold
      rw [World.cell?_setCell_other w _ _ _ (fun e => by have h9 := congrArg Addr.off e; simp only at h9; omega)]
      exact hold
  · rw [List.getElem_set_ne (fun e => hik e.symm)] at hv
    have hold := hc i hi2 j v hv
    rw [Nat.zero_add] at hold
    rw [World.cell?_setCell_other w _ _ _ (fun e => by
      have h9 := congrArg Addr.off e
      simp only at h9
      rcases Nat.lt_or_gt_of_ne hik with h1 | h1
      · have := Nat.mul_le_mul_right m (show i + 1 ≤ k by omega)
        rw [Nat.succ_mul] at this
        omega
      · have := Nat.mul_le_mul_right m (show k + 1 ≤ i by omega)
        rw [Nat.succ_mul] at this
        omega)]
    exact hold
/-- The first i elements changed. -/
def mixR {α : Type} (f : α → α) (i : Nat) (xs : List α) : List α := (xs.take i).map f ++ xs.drop i
theorem mixR_len {α : Type} (f : α → α) (i : Nat) (xs : List α) : (mixR f i xs).length = xs.length := by unfold mixR; simp; omega
theorem mixR_get {α : Type} (f : α → α) (i : Nat) (xs : List α) (h : i < xs.length) : (mixR f i xs)[i]'(by rw [mixR_len]; exact h) = xs[i] := by
  unfold mixR
  rw [List.getElem_append_right (by simp; omega)]
  simp [Nat.min_eq_left (Nat.le_of_lt h)]
theorem mixR_set {α : Type} (f : α → α) (i : Nat) (xs : List α) (h : i < xs.length) : (mixR f i xs).set i (f xs[i]) = mixR f (i + 1) xs := by
  unfold mixR
  have hl : ((xs.take i).map f).length = i := by simp; omega
  rw [List.set_append_right _ _ (by omega), hl, Nat.sub_self, List.drop_eq_getElem_cons h, List.set_cons_zero, List.take_succ_eq_append_getElem h, List.map_append]
  simp
theorem mixR_same {α : Type} (f : α → α) (i : Nat) (xs : List α) (h : i < xs.length) (he : f xs[i] = xs[i]) : mixR f (i + 1) xs = mixR f i xs := by
  rw [← mixR_set f i xs h, he]
  have := mixR_get f i xs h
  conv => lhs; rw [← this]
  exact List.set_getElem_self _
theorem mixR_zero {α : Type} (f : α → α) (xs : List α) : mixR f 0 xs = xs := by simp [mixR]
theorem mixR_all {α : Type} (f : α → α) (xs : List α) : mixR f xs.length xs = xs.map f := by simp [mixR]
theorem GRow.left {α : Type} {enc : α → List Value} {k : Nat} {w : World} {B : Nat} {A : Option Addr} {xs ys : List α} (h : GRow enc k w B A (xs ++ ys)) : GRow enc k w B A xs := fun hn => by
  obtain ⟨b, o, e, hb, hc⟩ := h (by rw [List.length_append]; omega)
  exact ⟨b, o, e, hb, fun i hi j u hu => hc i (by rw [List.length_append]; omega) j u (by rw [List.getElem_append_left hi]; exact hu)⟩
theorem GRow.right {α : Type} {enc : α → List Value} {k : Nat} {w : World} {B g o : Nat} {xs ys : List α} (h : GRow enc k w B (some ⟨g, o, none⟩) (xs ++ ys)) : GRow enc k w B (some ⟨g, o + xs.length * k, none⟩) ys := fun hn => by
  obtain ⟨b, o', e, hb, hc⟩ := h (by rw [List.length_append]; omega)
  cases e
  refine ⟨g, _, rfl, hb, fun i hi j u hu => ?_⟩
  have := hc (xs.length + i) (by rw [List.length_append]; omega) j u (by rw [List.getElem_append_right (by omega)]; simpa using hu)
  rw [← this]
  congr 2
  rw [Nat.add_mul]; omega
end Go.Proofs.YtogebcgkcijacaaGreatDoor


namespace Go.Proofs.YtogebcgkcijacaaGreatDoor
open Go.RowKit Go.Shelf

theorem scan9o (ps : List GIns) (h : AllOk ps.length ps) (h1 : 1 ≤ ps.length) (h2 : ps.length ≤ 12) (w : World) (hG : GlobP w) :
    Calls Tryz.prog 22 #[.string ⟨(disF ps ps.length).toArray⟩] w fun e w' => ∃ g c T, e = .returned (.tuple #[.slice (some ⟨g, 0, none⟩) T.length c, .agg #[.int .i64 0, .int .i64 0], .int .i64 0]) ∧ OwnK w' (w.heap.size + 1) (.slice (some ⟨g, 0, none⟩) T.length c) T ∧ T.map GTok.bare = progB nmW nmW (tgt ps) 0 ps ∧ T.length ≤ 156 ∧ Below w.heap.size w w' := by
  have hlex := disF_lex h (by omega) ps.length (Nat.le_refl _)
  rw [List.take_length] at hlex
  have hl := disF_len ps h.imm (by omega) ps.length (Nat.le_refl _)
  obtain ⟨q, us, e, hb⟩ := hlex [] trivial (1, 1)
  rw [List.append_nil] at e
  have hsc : scan (disF ps ps.length) = .ok us := by
    unfold scan
    rw [if_neg (by omega), e]
    simp [lex, Res.app]
  have hS := scan_any (disF ps ps.length) w hG.1.1 (by unfold maxLen; omega)
  rw [hsc] at hS
  refine hS.mono ?_
  rintro e w' ⟨v, rfl, hown, hbl⟩
  have hown' : OwnK w' (w.heap.size + 1) v (us.map Tok.g) := hown
  have hbare : (us.map Tok.g).map GTok.bare = progB nmW nmW (tgt ps) 0 ps := by rw [List.map_map, ← hb]; rfl
  have hf := progB_few (dfn := nmW) (use := nmW) (tg := tgt ps) ps 0
  have hf2 := progB_len (dfn := nmW) (use := nmW) (tg := tgt ps) ps 0
  have hlen := congrArg List.length hbare
  rw [List.length_map] at hlen
  have hs := hown'.2
  rcases hs with ⟨_, h0⟩ | ⟨g, cap, cur, e, _⟩
  · omega
  · subst e
    exact ⟨g, cap, us.map Tok.g, rfl, hown', hbare, by omega, hbl⟩
theorem IRow.next9 {w w' : World} {A : Option Addr} {len cap : Nat} {zs : List Int} (h : IRow w w.heap.size A len cap zs) (hb : Below w.heap.size w w') : IRow w' w'.heap.size A len cap zs :=
  ⟨h.count, h.le, h.max, fun hn => by
    obtain ⟨b, off, e, hlt, hc⟩ := h.row hn
    exact ⟨b, off, e, by have := hb.size; omega, fun i hi => (hb.cell (p := ⟨b, off + i, none⟩) hlt).trans (hc i hi)⟩, h.wf⟩
theorem OwnG.blk {α : Type} {enc : α → List Value} {T : TypeId} {k : Nat} {w : World} {base : Nat} {g n c : Nat} {ts : List α} (h : OwnG enc T k w base (.slice (some ⟨g, 0, none⟩) n c) ts) : ∃ cs, w.heap[g]? = some (.cells cs T (0, 0)) := by
  rcases h.2 with ⟨hv, _⟩ | ⟨g', cap, cur, hv, _, hh, _⟩
  · cases hv
  · cases hv; exact ⟨_, hh⟩
theorem GRow.setOther {α : Type} {enc : α → List Value} {k : Nat} {w : World} {B b o : Nat} {xs : List α} (h : GRow enc k w B (some ⟨b, o, none⟩) xs) {g : Nat} (hg : g ≠ b) (j : Nat) (u : Value) : GRow enc k (w.setCell ⟨g, j, none⟩ u) B (some ⟨b, o, none⟩) xs := fun hn => by
  obtain ⟨b', o', e, hb, hc⟩ := h hn
  cases e
  refine ⟨b, o, rfl, hb, fun i hi j' v hv => ?_⟩
  rw [World.cell?_setCell_other w _ _ _ (fun e => by have h9 := congrArg Addr.block e; simp only at h9; exact hg h9)]
  exact hc i hi j' v hv
theorem blk_set {w : World} {g : Nat} {T : TypeId} (h : ∃ cs, w.heap[g]? = some (.cells cs T (0, 0))) (j : Nat) (u : Value) : ∃ cs, (w.setCell ⟨g, j, none⟩ u).heap[g]? = some (.cells cs T (0, 0)) := by
  obtain ⟨cs, h⟩ := h
  exact ⟨_, Lib.heap_setCell_same h u⟩
/-- The first loop of IsaConcat, at the token i. -/
structure CcT (w3 : World) (g : Nat) (T : List GTok) (i : Nat) (wr : World) : Prop where
  row : GRow GTok.cells 5 wr wr.heap.size (some ⟨g, 0, none⟩) (mixR (renG secW) i T)
  blk : ∃ cs, wr.heap[g]? = some (.cells cs 47 (0, 0))
  bel : Below w3.heap.size w3 wr
theorem CcT.step {w3 wr : World} {g i : Nat} {T : List GTok} (h : CcT w3 g T i wr) (hg : w3.heap.size ≤ g) (hi : i < T.length) (x : List UInt8) (he : renG secW T[i] = { T[i] with text := x }) : CcT w3 g T (i + 1) (wr.setCell ⟨g, i * 5 + 1, none⟩ (.string ⟨x.toArray⟩)) := by
  refine ⟨?_, blk_set h.blk _ _, h.bel.setCell (p := ⟨g, i * 5 + 1, none⟩) hg _⟩
  have hr := GRow.setE GTok.len5 h.row (k := i) (j0 := 1) (by rw [mixR_len]; exact hi) (by decide) (.string ⟨x.toArray⟩) (renG secW T[i]) (by rw [mixR_get _ _ _ hi, he]; rfl)
  rw [mixR_set _ _ _ hi] at hr
  exact hr.wide (by simp)
theorem CcT.same {w3 wr : World} {g i : Nat} {T : List GTok} (h : CcT w3 g T i wr) (hi : i < T.length) (he : renG secW T[i] = T[i]) : CcT w3 g T (i + 1) wr :=
  ⟨by rw [mixR_same _ _ _ hi he]; exact h.row, h.blk, h.bel⟩
/-- The second loop of IsaConcat, at the instruction i. -/
structure CcQ (w : World) (gp gq gr : Nat) (ps qs : List GIns) (i : Nat) (wr : World) : Prop where
  row : GRow GIns.cells 5 wr wr.heap.size (some ⟨gq, 0, none⟩) (mixR (shI ps.length) i qs)
  blk : ∃ cs, wr.heap[gq]? = some (.cells cs 52 (0, 0))
  rp : GRow GIns.cells 5 wr wr.heap.size (some ⟨gp, 0, none⟩) ps
  rr : GRow GIns.cells 5 wr wr.heap.size (some ⟨gr, 0, none⟩) (ps ++ qs.map (shI ps.length))
  bel : Below w.heap.size w wr
theorem CcQ.next {w : World} {gp gq gr : Nat} {ps qs : List GIns} {i : Nat} {wr w' : World} (h : CcQ w gp gq gr ps qs i wr) (hb : Below wr.heap.size wr w') : CcQ w gp gq gr ps qs i w' :=
  ⟨h.row.next hb, by obtain ⟨cs, hc⟩ := h.blk; exact ⟨cs, (hb.block gq (heap_lt hc)).trans hc⟩, h.rp.next hb, h.rr.next hb, bel_next h.bel hb⟩
theorem CcQ.step {w : World} {gp gq gr : Nat} {ps qs : List GIns} {i : Nat} {wr : World} (h : CcQ w gp gq gr ps qs i wr) (hg : w.heap.size ≤ gq) (h1 : gq ≠ gp) (h2 : gq ≠ gr) (hi : i < qs.length) (v : Int) (he : shI ps.length qs[i] = { qs[i] with imm := v }) : CcQ w gp gq gr ps qs (i + 1) (wr.setCell ⟨gq, i * 5 + 4, none⟩ (.int .i32 v)) := by
  have hr := GRow.setE GIns.len h.row (k := i) (j0 := 4) (by rw [mixR_len]; exact hi) (by decide) (.int .i32 v) (shI ps.length qs[i]) (by rw [mixR_get _ _ _ hi, he]; rfl)
  rw [mixR_set _ _ _ hi] at hr
  exact ⟨hr.wide (by simp), blk_set h.blk _ _, (h.rp.setOther h1 _ _).wide (by simp), (h.rr.setOther h2 _ _).wide (by simp), h.bel.setCell (p := ⟨gq, i * 5 + 4, none⟩) hg _⟩
theorem CcQ.same {w : World} {gp gq gr : Nat} {ps qs : List GIns} {i : Nat} {wr : World} (h : CcQ w gp gq gr ps qs i wr) (hi : i < qs.length) (he : shI ps.length qs[i] = qs[i]) : CcQ w gp gq gr ps qs (i + 1) wr :=
  ⟨by rw [mixR_same _ _ _ hi he]; exact h.row, h.blk, h.rp, h.rr, h.bel⟩
theorem asmC (l : List UInt8) (ps : List GIns) {s : ASt} (hs : asmAll l = .ok () s) (hp : s.prog = ps) (h1 : 1 ≤ ps.length) (hl : l.length ≤ maxLen) (w : World) (hG : GlobP w) :
    Calls Tryz.prog 18 #[.string ⟨l.toArray⟩] w fun e w' => ∃ g c, e = .returned (.tuple #[.slice (some ⟨g, 0, none⟩) ps.length c, .agg #[.int .i64 0, .int .i64 0], .int .i64 0]) ∧ ps.length ≤ c ∧ c ≤ maxLen ∧ w.heap.size ≤ g ∧ GRow GIns.cells 5 w' w'.heap.size (some ⟨g, 0, none⟩) ps ∧ Below w.heap.size w w' := by
  have ha := asm_any l w hl hG.1.1 hG.1.2
  rw [hs] at ha
  refine ha.mono ?_
  intro e w' hE
  obtain ⟨pv, rfl, hown, hb⟩ := hE
  rw [hp] at hown
  obtain ⟨A1, c1, hv, hc, hm, hrow⟩ := hown.row GIns.len
  subst hv
  obtain ⟨g, c9, ev9⟩ : ∃ g c9, Value.slice A1 ps.length c1 = .slice (some ⟨g, 0, none⟩) ps.length c9 := by
    rcases hown.2 with ⟨_, h0⟩ | ⟨g, cap, cur, e, _⟩
    · omega
    · exact ⟨g, cap, e⟩
  injection ev9 with ea _ ec
  subst ea ec
  exact ⟨g, c1, rfl, hc, hm, (hown.lt g rfl).1, hrow, hb⟩
theorem progC (A : Option Addr) (len cap : Nat) (zs : List Int) (w : World) (hr : IRow w w.heap.size A len cap zs) :
    Calls Tryz.prog 20 #[.slice A len cap] w fun e w' => ∃ g c xs, e = .returned (.slice (some ⟨g, 0, none⟩) xs.length c) ∧ OwnG GIns.cells 52 5 w' w.heap.size (.slice (some ⟨g, 0, none⟩) xs.length c) xs ∧ 1 ≤ xs.length ∧ xs.length ≤ 12 ∧ AllOk xs.length xs ∧ Below w.heap.size w w' := by
  refine (program_kit A len cap zs w hr).mono ?_
  rintro e w' ⟨v, xs, rfl, hown, h1, h2, h3, hb⟩
  rcases hown.2 with ⟨_, h0⟩ | ⟨g, c, cur, e, _⟩
  · omega
  · subst e
    exact ⟨g, c, xs, rfl, hown, h1, h2, h3, hb⟩
set_option maxRecDepth 50000 in
set_option maxHeartbeats 4000000 in
theorem concat9 (A : Option Addr) (len cap : Nat) (zs : List Int) (A2 : Option Addr) (len2 cap2 : Nat) (zs2 : List Int) (w : World) (hG : GlobP w) (hr : IRow w w.heap.size A len cap zs) (hr2 : IRow w w.heap.size A2 len2 cap2 zs2) :
    Calls Tryz.prog 7 #[.slice A len cap, .slice A2 len2 cap2] w fun e w' => e = .returned (.bool true) ∧ Below w.heap.size w w' := by
  have HG := Lib.hid hG
  have HAW := Lib.hid fun W (hW : GlobP W) => awake9 W hW.1
  have HA0 := Lib.hid (HAW.out w hG)
  rcases Nat.lt_or_ge 200 len with h | h
  · have f1 : decide ((200 : Int) < len) = true := by simp; omega
    clear hG hr hr2
    go_enter Tryz.func7, Tryz.ntmps7
    go_wp2_with fail
    go_fit HA0.out
    rintro e w1 ⟨rfl, hb1⟩
    have HB1 := Lib.hid hb1
    clear hb1
    go_wp2
    go_ret
    exact ⟨rfl, HB1.out⟩
  have f1 : decide ((200 : Int) < len) = false := by simp; omega
  clear h
  rcases Nat.lt_or_ge 200 len2 with h | h
  · have f2 : decide ((200 : Int) < len2) = true := by simp; omega
    clear hG hr hr2
    go_enter Tryz.func7, Tryz.ntmps7
    go_wp2_with fail
    go_fit HA0.out
    rintro e w1 ⟨rfl, hb1⟩
    have HB1 := Lib.hid hb1
    clear hb1
    go_wp2
    go_ret
    exact ⟨rfl, HB1.out⟩
  have f2 : decide ((200 : Int) < len2) = false := by simp; omega
  clear h HA0
  have HPK := Lib.hid (progC A len cap zs w hr)
  have HR2 := Lib.hid hr2
  clear hG hr hr2
  go_enter Tryz.func7, Tryz.ntmps7
  go_wp2_with fail
  go_fit HPK.out
  rintro e w1 ⟨gp, cp, ps, rfl, hownp, hn1, hn2, hallp, hb1⟩
  have HP2 := Lib.hid (progC A2 len2 cap2 zs2 w1 (HR2.out.next9 hb1))
  have HB1 := Lib.hid hb1
  have HG1 := Lib.hid (HG.out.next hb1)
  have HOP := Lib.hid hownp
  have HAP := Lib.hid hallp
  clear hownp hallp hb1 HPK HR2 f1 f2
  go_wp2_with fail
  go_fit HP2.out
  rintro e w2 ⟨gq, cq, qs, rfl, hownq, hm1, hm2, hallq, hb2⟩
  have HB2 := Lib.hid (bel_next HB1.out hb2)
  have HG2 := Lib.hid (HG1.out.next hb2)
  have hgp := HOP.out.lt gp rfl
  have hgq := hownq.lt gq rfl
  have HGE : Hid (w.heap.size ≤ gq ∧ gq ≠ gp ∧ gq < w2.heap.size) := Lib.hid ⟨by have := HB1.out.size; omega, by omega, hgq.2⟩
  obtain ⟨Ap, cp', evp, hcp, _, hrp⟩ := (HOP.out.next hb2).row GIns.len
  injection evp with e1 _ e2
  subst e1 e2
  obtain ⟨Aq, cq', evq, hcq, _, hrq⟩ := hownq.row GIns.len
  injection evq with e1 _ e2
  subst e1 e2
  have HRP := Lib.hid hrp
  have HRQ := Lib.hid hrq
  have HBQ := Lib.hid hownq.blk
  have HAQ := Lib.hid hallq
  have HDI := Lib.hid (dis_any qs (some ⟨gq, 0, none⟩) cq w2 HG2.out.1.2 HG2.out.2 hrq hallq.imm (hallq.valP hm1 (by omega)))
  clear hownq hallq hb2 hgp hgq hrp hrq hcp hcq HP2 HB1 HG1 HOP
  go_wp2_with fail
  go_fit HDI.out
  rintro e w3 ⟨rfl, hb3⟩
  have HB3 := Lib.hid (bel_next HB2.out hb3)
  have HG3 := Lib.hid (HG2.out.next hb3)
  have HRP3 := Lib.hid (HRP.out.next hb3)
  have HRQ3 := Lib.hid (HRQ.out.next hb3)
  have HBQ3 : Hid (∃ cs, w3.heap[gq]? = some (.cells cs 52 (0, 0))) := Lib.hid (by obtain ⟨cs, hc⟩ := HBQ.out; exact ⟨cs, (hb3.block gq HGE.out.2.2).trans hc⟩)
  have HSC := Lib.hid (scan9o qs HAQ.out hm1 hm2 w3 HG3.out)
  clear hb3 HDI HB2 HG2 HRP HRQ HBQ
  go_wp2_with fail
  go_fit HSC.out
  rintro e w4 ⟨gt, ct, T, rfl, hownT, hbT, hlT, hb4⟩
  have hownT2 := hownT.next (bel_lit (Below.refl _ w4) (.cells #[.int .i64 0, .int .i64 0] 35))
  obtain ⟨At, ct', evt, hct, _, hrT⟩ := hownT2.row GTok.len5
  injection evt with e1 _ e2
  subst e1 e2
  have hgt := hownT.lt gt rfl
  have HGT : Hid (w3.heap.size ≤ gt) := Lib.hid (by omega)
  have HBT := Lib.hid hbT
  have HCT0 : Hid (CcT w3 gt T 0 (w4.alloc (.cells #[.int .i64 0, .int .i64 0] 35))) := Lib.hid ⟨by rw [mixR_zero]; exact hrT, hownT2.blk, bel_next hb4 (bel_lit (Below.refl _ w4) _)⟩
  have HTB : Hid (∀ t ∈ T, BOk t.bare) := Lib.hid fun t ht => ok_prog (n := qs.length) (N := qs.length) (fun i hi => ⟨(nm_word i (by omega)).1, by have := (nm_word i (by omega)).2; omega⟩) (fun i hi => ⟨(nm_word i (by omega)).1, by have := (nm_word i (by omega)).2; omega⟩) qs 0 HAQ.out (by omega) _ (by rw [← hbT]; exact List.mem_map_of_mem ht)
  clear hownT hownT2 hbT hct hrT hgt hb4 HSC
  go_upto_region 7 with fail
  generalize w4.alloc (.cells #[.int .i64 0, .int .i64 0] 35) = w5 at *
  generalize hTn : T.length = n at *
  have HTN := Lib.hid hTn
  clear hTn
  go_wp2
  go_loopw [10] (fun vi wr => ∃ i : Nat, vi = .int .i64 i ∧ i ≤ n ∧ Hid (CcT w3 gt T i wr)) (fun vi _ => n - (intOf vi).toNat)
  case atStart => exact ⟨0, rfl, Nat.zero_le _, HCT0⟩
  case round =>
    obtain ⟨i, rfl, hi, HI⟩ := hrel
    clear HCT0
    rcases Nat.lt_or_ge i n with hlt | hge
    · have hltT : i < T.length := by have := HTN.out; omega
      obtain ⟨bt, ot, hAT, hbtl, x0, x1, x2, x3, x4⟩ := HI.out.row.tok5 (k := i) (by rw [mixR_len]; exact hltT)
      cases hAT
      rw [mixR_get _ _ _ hltT] at x0 x1 x2 x3 x4
      obtain ⟨tk, htk⟩ : ∃ t, T[i] = t := ⟨_, rfl⟩
      have HTK := Lib.hid htk
      rw [htk] at x0 x1 x2 x3 x4
      clear htk
      obtain ⟨tk0, tk1, tk2, tk3, tk4⟩ := tk
      simp only [Nat.zero_add] at x0 x1 x2 x3 x4
      have zT : wr.frozen? ⟨gt, i * 5 + 1, none⟩ = false := by obtain ⟨cs, hc⟩ := HI.out.blk; exact Lib.frozen_of_heap hc _
      by_cases hk : tk0 = 1
      · subst hk
        obtain ⟨c, r, htx⟩ : ∃ c r, tk1 = c :: r := by
          have hb := HTB.out ⟨1, tk1, tk2, tk3, tk4⟩ (by rw [← HTK.out]; exact List.getElem_mem hltT)
          exact bok_w hb
        subst htx
        have HIX : Hid (∀ W : World, (Instr.index 9 (.string ⟨(c :: r).toArray⟩) (.int .i64 0)).run Tryz.prog W = .ok (.int .u8 (c.toNat : Nat)) W) := Lib.hid fun W => str_index (c :: r) 0 (by simp) W
        by_cases hc : c = 76
        · subst hc
          have hix : ∀ W : World, (Instr.index 9 (.string ⟨((76 : UInt8) :: r).toArray⟩) (.int .i64 0)).run Tryz.prog W = .ok (.int .u8 76) W := fun W => HIX.out W
          clear HIX
          have hrl : r.length ≤ 44 := by
            have := (HTB.out ⟨1, 76 :: r, tk2, tk3, tk4⟩ (by rw [← HTK.out]; exact List.getElem_mem hltT)).len
            simpa [GTok.bare] using this
          have HNE : Hid (CcT w3 gt T (i + 1) (wr.setCell ⟨gt, i * 5 + 1, none⟩ (.string ⟨(secW ++ 76 :: r).toArray⟩))) := Lib.hid (HI.out.step HGT.out hltT _ (by rw [HTK.out]; rfl))
          have hcc : ((⟨#[115, 101, 99, 111, 110, 100]⟩ : ByteArray) ++ ⟨((76 : UInt8) :: r).toArray⟩) = ⟨(secW ++ 76 :: r).toArray⟩ := ba_app9 secW _
          clear HI
          go_wp2
          go_roundw
          case rel => exact ⟨i + 1, by go_num, by omega, HNE⟩
          case measure => simp [intOf]; omega
        · have hL : isLB T[i].bare = false := by rw [HTK.out]; simp [isLB, GTok.bare, hc]
          have hix := fun W => HIX.out W
          clear HIX
          have hc2 : (((c.toNat : Nat) : Int) == 76) = false := by
            have : c.toNat ≠ 76 := fun e => hc (UInt8.toNat_inj.1 e)
            simp; omega
          have HNE : Hid (CcT w3 gt T (i + 1) wr) := Lib.hid (HI.out.same hltT (by unfold renG; rw [hL]; rfl))
          clear HI hL hc
          go_wp2
          go_roundw
          case rel => exact ⟨i + 1, by go_num, by omega, HNE⟩
          case measure => simp [intOf]; omega
      · have hL : isLB T[i].bare = false := by rw [HTK.out]; simp [isLB, GTok.bare, hk]
        have g0 : (tk0 == 1) = false := by simp [hk]
        have HNE : Hid (CcT w3 gt T (i + 1) wr) := Lib.hid (HI.out.same hltT (by unfold renG; rw [hL]; rfl))
        clear HI hL hk
        go_wp2
        go_roundw
        case rel => exact ⟨i + 1, by go_num, by omega, HNE⟩
        case measure => simp [intOf]; omega
    · obtain rfl : i = n := by omega
      have hrow := HI.out.row
      rw [show i = T.length from HTN.out.symm, mixR_all] at hrow
      have hbel := HI.out.bel
      obtain ⟨⟨s, hs, hq⟩, hl1, hl2, hF⟩ := cat_ok HAP.out HAQ.out hn1 hn2 hm1 hm2 HBT.out (U := T.map (renG secW)) (by rw [List.map_map, List.map_map]; exact List.map_congr_left fun t _ => renG_bare secW t)
      have HGR := Lib.hid (HG3.out.next hbel)
      have HBR := Lib.hid (bel_next HB3.out hbel)
      have HRPR := Lib.hid (HRP3.out.next hbel)
      have HRQR := Lib.hid (HRQ3.out.next hbel)
      have HBQR : Hid (∃ cs, wr.heap[gq]? = some (.cells cs 52 (0, 0))) := Lib.hid (by obtain ⟨cs, hc⟩ := HBQ3.out; exact ⟨cs, (hbel.block gq (heap_lt hc)).trans hc⟩)
      have HDP := Lib.hid (dis_any ps (some ⟨gp, 0, none⟩) cp wr HGR.out.1.2 HGR.out.2 HRPR.out HAP.out.imm (HAP.out.valP hn1 (by omega)))
      have HU : Hid ((T.map (renG secW)).length = i) := Lib.hid (by rw [List.length_map]; exact HTN.out)
      have HFO := Lib.hid fun W (hW : GlobP W) (hr : GRow GTok.cells 5 W W.heap.size (some ⟨gt, 0, none⟩) (T.map (renG secW))) => format_any (T.map (renG secW)) (some ⟨gt, 0, none⟩) ct W hr hF hW.2
      rw [HU.out] at HFO
      have HRT := Lib.hid hrow
      have hlc : (ps ++ qs.map (shI ps.length)).length = ps.length + qs.length := by rw [List.length_append, List.length_map]
      have HAS := Lib.hid fun W (hW : GlobP W) => asmC _ (ps ++ qs.map (shI ps.length)) hs hq (by rw [hlc]; omega) (by rw [List.length_append]; unfold maxLen; omega) W hW
      rw [hlc] at HAS
      clear hrow hbel hs hq hF HI HBT HTB HG3 HB3 HRP3 HRQ3 HBQ3 HU
      have HCC : Hid (∀ a b : List UInt8, ((⟨a.toArray⟩ : ByteArray) ++ ⟨b.toArray⟩) = ⟨(a ++ b).toArray⟩) := Lib.hid ba_app9
      generalize disF ps ps.length = dl at *
      generalize fmtL (T.map (renG secW)) = fl at *
      go_wp2_with fail
      go_fit HDP.out
      rintro e wa ⟨rfl, hba⟩
      have HBA := Lib.hid (bel_next HBR.out hba)
      have HGA := Lib.hid (HGR.out.next hba)
      have HRPA := Lib.hid (HRPR.out.next hba)
      have HRQA := Lib.hid (HRQR.out.next hba)
      have HRTA := Lib.hid (HRT.out.next hba)
      have HBQA : Hid (∃ cs, wa.heap[gq]? = some (.cells cs 52 (0, 0))) := Lib.hid (by obtain ⟨cs, hc⟩ := HBQR.out; exact ⟨cs, (hba.block gq (heap_lt hc)).trans hc⟩)
      have HFA := Lib.hid (HFO.out wa HGA.out HRTA.out)
      clear hba HDP HBR HGR HRPR HRQR HRT HBQR HFO
      go_wp2_with fail
      go_fit HFA.out
      rintro e wb ⟨rfl, hbb⟩
      have HBB := Lib.hid (bel_next HBA.out hbb)
      have HGB := Lib.hid (HGA.out.next hbb)
      have HRPB := Lib.hid (HRPA.out.next hbb)
      have HRQB := Lib.hid (HRQA.out.next hbb)
      have HBQB : Hid (∃ cs, wb.heap[gq]? = some (.cells cs 52 (0, 0))) := Lib.hid (by obtain ⟨cs, hc⟩ := HBQA.out; exact ⟨cs, (hbb.block gq (heap_lt hc)).trans hc⟩)
      have HASB := Lib.hid (HAS.out wb HGB.out)
      have hcc := HCC.out dl fl
      clear hbb HFA HBA HGA HRPA HRQA HRTA HBQA HAS HCC
      go_wp2_with fail
      go_fit HASB.out
      rintro e wd ⟨gr, cr, rfl, hcr, hcm, hgr, hrr, hbd⟩
      have hbA := bel_next hbd (bel_lit (Below.refl _ wd) (.cells #[.int .i64 0, .int .i64 0] 35))
      have HQ0 : Hid (CcQ w gp gq gr ps qs 0 (wd.alloc (.cells #[.int .i64 0, .int .i64 0] 35))) := Lib.hid ⟨by rw [mixR_zero]; exact HRQB.out.next hbA, by obtain ⟨cs, hc⟩ := HBQB.out; exact ⟨cs, (hbA.block gq (heap_lt hc)).trans hc⟩, HRPB.out.next hbA, GRow.next hrr (bel_lit (Below.refl _ wd) _), bel_next HBB.out hbA⟩
      have HGF := Lib.hid (HGB.out.next hbA)
      have HNR : Hid (gq ≠ gr ∧ gq ≠ gp ∧ w.heap.size ≤ gq) := Lib.hid ⟨by obtain ⟨cs, hc⟩ := HBQB.out; have := heap_lt hc; omega, HGE.out.2.1, HGE.out.1⟩
      clear hrr hbd hbA HASB HBB HGB HRPB HRQB HBQB hgr hcc
      go_upto_region 13 with fail
      generalize wd.alloc (.cells #[.int .i64 0, .int .i64 0] 35) = wf at *
      have HGF2 : Hid (∀ W, Below w.heap.size w W → GlobP W) := Lib.hid fun W hW => HG.out.next hW
      clear HGF
      go_wp2
      go_loopw [14] (fun vi wr => ∃ i : Nat, vi = .int .i64 i ∧ i ≤ qs.length ∧ Hid (CcQ w gp gq gr ps qs i wr)) (fun vi _ => qs.length - (intOf vi).toNat)
      case atStart => exact ⟨0, rfl, Nat.zero_le _, HQ0⟩
      case round =>
        obtain ⟨j, rfl, hj, HI⟩ := hrel
        clear HQ0
        rcases Nat.lt_or_ge j qs.length with hlt | hge2
        · obtain ⟨k, hk, hok⟩ := HAQ.out qs[j] (List.getElem_mem hlt)
          have HJ := Lib.hid fun W => jumps_any qs[j] k hk hok.op W
          have hlr : j < (mixR (shI ps.length) j qs).length := by rw [mixR_len]; exact hlt
          obtain ⟨b1, o1, e1, hb1, x0, x1, x2, x3, x4⟩ := HI.out.row.ins hlr
          cases e1
          rw [mixR_get _ _ _ hlt] at x0 x1 x2 x3 x4
          obtain ⟨x, hx⟩ : ∃ x, qs[j] = x := ⟨_, rfl⟩
          have HX := Lib.hid hx
          rw [hx] at x0 x1 x2 x3 x4 HJ hok
          have hop : x.op.toNat = k := by rw [hok.op]; rfl
          have HOK := Lib.hid hok
          by_cases h2 : (fmtN x.op.toNat).2.2 = 2
          · have HD2 : Hid (decide ((fmtN x.op.toNat).2.2 = 2) = true) := Lib.hid (by simpa using h2)
            rw [HD2.out] at HJ
            have htg := hok.tg (by rw [← hop]; exact h2)
            have HST : Hid (∀ W, Below wr.heap.size wr W → CcQ w gp gq gr ps qs (j + 1) (W.setCell ⟨gq, j * 5 + 4, none⟩ (.int .i32 (x.imm + ps.length))) ∧ W.cell? ⟨gq, j * 5 + 4, none⟩ = some (.int .i32 x.imm) ∧ W.frozen? ⟨gq, j * 5 + 4, none⟩ = false) := Lib.hid fun W hW => by
              have h9 := HI.out.next hW
              refine ⟨h9.step HNR.out.2.2 HNR.out.2.1 HNR.out.1 hlt _ (by rw [HX.out]; unfold shI; rw [if_pos h2]), ?_, ?_⟩
              · obtain ⟨b1, o1, e1, hb1, y0, y1, y2, y3, y4⟩ := h9.row.ins hlr
                cases e1
                rw [mixR_get _ _ _ hlt, HX.out, Nat.zero_add] at y4
                exact y4
              · obtain ⟨cs, hc⟩ := h9.blk; exact Lib.frozen_of_heap hc _
            clear hx hok HX HOK HI h2 hop HD2
            obtain ⟨xo, xa, xb, xc, xi⟩ := x
            simp only [Nat.zero_add] at x0 x1 x2 x3 x4 htg HST
            unfold GIns.val at HJ
            simp only at HJ
            go_wp2_with fail
            go_fit (HJ.out _)
            rintro e wg ⟨rfl, hbg⟩
            obtain ⟨hst, y4, z4⟩ := HST.out wg hbg
            have HNE := Lib.hid hst
            have hw3 : wrap32 (xi + (ps.length : Int)) = xi + (ps.length : Int) := by unfold wrap32; omega
            have hw4 : wrap32 (ps.length : Int) = (ps.length : Int) := by unfold wrap32; omega
            clear htg
            clear hst hbg x0 x1 x2 x3 x4 HJ HST
            go_upto_region 17 with fail
            clear hw3 hw4 y4 z4
            go_wp2
            go_roundw
            case rel => exact ⟨j + 1, by go_num, by omega, HNE⟩
            case measure => simp [intOf]; omega
          · have HD2 : Hid (decide ((fmtN x.op.toNat).2.2 = 2) = false) := Lib.hid (by simpa using h2)
            rw [HD2.out] at HJ
            have HST : Hid (∀ W, Below wr.heap.size wr W → CcQ w gp gq gr ps qs (j + 1) W) := Lib.hid fun W hW => (HI.out.next hW).same hlt (by rw [HX.out]; unfold shI; rw [if_neg h2])
            clear hx hok HX HOK HI h2 hop HD2
            obtain ⟨xo, xa, xb, xc, xi⟩ := x
            simp only [Nat.zero_add] at x0 x1 x2 x3 x4
            unfold GIns.val at HJ
            simp only at HJ
            go_wp2_with fail
            go_fit (HJ.out _)
            rintro e wg ⟨rfl, hbg⟩
            have HNE := Lib.hid (HST.out wg hbg)
            clear hbg x0 x1 x2 x3 x4 HJ HST
            go_wp2
            go_roundw
            case rel => exact ⟨j + 1, by go_num, by omega, HNE⟩
            case measure => simp [intOf]; omega
        · obtain rfl : j = qs.length := by omega
          have hrow := HI.out.row
          rw [mixR_all] at hrow
          have hrr := HI.out.rr
          have hml : (qs.map (shI ps.length)).length = qs.length := by simp
          have hright := hrr.right
          rw [Nat.zero_add] at hright
          have HS1 := Lib.hid (rSmi_any ps ps (some ⟨gr, 0, none⟩) (some ⟨gp, 0, none⟩) cr cp wr hrr.left HI.out.rp (by omega) (by omega))
          have HS2 := Lib.hid fun W (hW : Below wr.heap.size wr W) => rSmi_any (qs.map (shI ps.length)) (qs.map (shI ps.length)) (some ⟨gr, ps.length * 5, none⟩) (some ⟨gq, 0, none⟩) (cr - ps.length) cq W (hright.next hW) (hrow.next hW) (by omega) (by omega)
          have HD1 : Hid (decide (ps = ps) = true) := Lib.hid (by simp)
          have HD2 : Hid (decide (qs.map (shI ps.length) = qs.map (shI ps.length)) = true) := Lib.hid (by simp)
          rw [HD1.out] at HS1
          rw [HD2.out, hml] at HS2
          have HBE := Lib.hid HI.out.bel
          clear hrow hrr hright HI HD1 HD2 hml
          go_wp2_with fail
          go_fit HS1.out
          rintro e wg ⟨rfl, hbg⟩
          have HBG := Lib.hid (bel_next HBE.out hbg)
          have HS3 := Lib.hid (HS2.out wg hbg)
          clear hbg HS1 HS2 HBE
          go_wp2_with fail
          go_fit HS3.out
          rintro e wh ⟨rfl, hbh⟩
          have HBH := Lib.hid (bel_next HBG.out hbh)
          clear hbh HS3 HBG
          go_wp2_with fail
          go_fit (HAW.out _ (HGF2.out _ HBH.out))
          rintro e wi ⟨rfl, hbi⟩
          have HBI := Lib.hid (bel_next HBH.out hbi)
          clear hbi
          go_wp2
          go_ret
          exact ⟨rfl, HBI.out⟩
end Go.Proofs.YtogebcgkcijacaaGreatDoor
